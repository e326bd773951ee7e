import Derived.Test.YtmcaapgcplhhmaaW12
/- sketches: the sketches of texts, and the references. -/
namespace Go.Proofs.Ytmcaapgcplhhmaa
open Go.RowKit
attribute [local go_sem] run_store_complex
theorem t35 : Try.prog.underlying 35 = some (.slice 31) := by kernel_rfl
theorem i31 : (Try.prog.info? 31).map (fun i => (i.zero, i.size, i.bytes)) = some (some (.agg #[.int .i64 0, .int .i64 0, .int .i64 0, .int .i64 0, .int .i64 0, .int .i64 0, .int .i64 0, .int .i64 0]), 8, 64) := by kernel_rfl
theorem arr_add (a m : Nat) (c : Nat → Value) : (arr a c).toList ++ (arr m (fun j => c (a + j))).toList = (arr (a + m) c).toList := by
  apply List.ext_getElem?
  intro i
  by_cases h : i < a
  · rw [List.getElem?_append_left (by rw [Array.length_toList, arr_size]; exact h), Array.getElem?_toList, Array.getElem?_toList, arr_get _ _ _ h, arr_get _ _ _ (by omega)]
  · rw [List.getElem?_append_right (by rw [Array.length_toList, arr_size]; omega), Array.length_toList, arr_size, Array.getElem?_toList, Array.getElem?_toList]
    by_cases h2 : i < a + m
    · rw [arr_get _ _ _ (by omega), arr_get _ _ _ h2, show a + (i - a) = i by omega]
    · rw [Array.getElem?_eq_none (by rw [arr_size]; omega), Array.getElem?_eq_none (by rw [arr_size]; omega)]
theorem owns_keep {K : Nat → Prop} {w w' : World} {B e m : Nat} {v : Value} {n : Nat} {xs : List Value} (h : w.ownsRow B e m v n xs) (hk : Keep K w w') (hK : ∀ g, v.ownBlock = some g → K g) : w'.ownsRow B e m v n xs := by
  refine ⟨h.1, ?_⟩
  rcases h.2 with hn | ⟨g, cap, cur, rfl, hbg, hgg, rest⟩
  · exact .inl hn
  · exact .inr ⟨g, cap, cur, rfl, hbg, by rw [hk.block g (hK g rfl) (lt_of_block hgg)]; exact hgg, rest⟩
theorem app_own {B : Nat} {w : World} {v : Value} {n m t e bytes : Nat} {z : Value} {c : Nat → Value} (ht : Try.prog.underlying t = some (.slice e)) (hi : (Try.prog.info? e).map (fun i => (i.zero, i.size, i.bytes)) = some (some z, m, bytes)) (hzs : z.cells.size = m) (hm : 0 < m) (hby : bytes ≤ 64) (A : Array Value) (hA : A = arr m (fun j => c (n * m + j))) (h1 : ∀ j, (c j).oneCell' = true)
    (ho : w.ownsRow B e m v n (arr (n * m) c).toList) (hB : B ≤ w.heap.size) (hn : n + 1 ≤ 100000) :
    ∃ g cap w', (Builtin.append_ #[t, t] t #[v, .slice (some ⟨w.heap.size, 0, none⟩) 1 1]).run Try.prog (w.alloc (.cells A e)) = .ok (.slice (some ⟨g, 0, none⟩) (n + 1) cap) w' ∧
      w'.ownsRow B e m (.slice (some ⟨g, 0, none⟩) (n + 1) cap) (n + 1) (arr ((n + 1) * m) c).toList ∧ Keep (fun k => v.ownBlock ≠ some k) w w' ∧ (v.ownBlock = some g ∨ g = w.heap.size + 1) := by
  obtain ⟨i0, hi0, hz0, hz1, hz2⟩ := info_parts hi
  obtain ⟨g, cap, w', hr, ho', hg, hat, hlt⟩ := run_append_lies (P := Try.prog) (w.alloc (.cells A e)) t t B e i0 z m bytes ht hi0 hz0 hz1 hz2 hzs hm v n _ (ho.alloc _) ⟨w.heap.size, 0, none⟩ 1 1 A.toList (by rw [hA, Array.length_toList, arr_size, Nat.one_mul])
    (World.news_of_block (heap_alloc_new _ _)) (by
      intro u hu
      rw [hA, Array.mem_toList_iff] at hu
      unfold arr at hu
      rw [Array.mem_ofFn] at hu
      obtain ⟨i, rfl⟩ := hu
      exact h1 _) (by decide) (by unfold maxLen; omega) (by
      have : (n + 1) * bytes ≤ 100000 * 64 := Nat.mul_le_mul hn hby
      omega) (by simp; omega) (w.heap.size + 1) (by simp)
  refine ⟨g, cap, w', hr, ?_, ?_, hat⟩
  · rw [hA, arr_add, ← Nat.succ_mul] at ho'
    exact ho'
  · exact ((Keep.refl _ w).alloc _).grown hg (fun k hk h => h hk)
/- a row of the call's own as a row -/
theorem owns_row {w : World} {B e m n : Nat} {v : Value} {c : Nat → Value} (h : w.ownsRow B e m v n (arr (n * m) c).toList) : Row w v m c n := by
  rcases h.2 with ⟨rfl, rfl⟩ | ⟨g, cap, cur, rfl, hb, hg, h2, h3, h4, h5⟩
  · exact Or.inl ⟨none, 0, rfl, rfl⟩
  · by_cases hn : n = 0
    · subst hn
      exact Or.inl ⟨_, cap, rfl, rfl⟩
    · refine Or.inr ⟨g, 0, cap, rfl, by omega, lt_of_block hg, fun i hi => ?_⟩
      have e1 : (arr (n * m) c).toList[i]? = some (c i) := by rw [Array.getElem?_toList]; exact arr_get _ _ _ hi
      rw [← h5, List.getElem?_take, if_pos hi, Array.getElem?_toList] at e1
      rw [Nat.zero_add, cell_of_row _ _ _ _ _ _ hg]
      exact e1
theorem alloc_below {w w' : World} {o : Obj} (h : Below (w.alloc o).heap.size (w.alloc o) w') : Below w.heap.size w w' := ((Below.refl w.heap.size w).alloc (Nat.le_refl _) o).trans (h.mono (by simp))
/- a slice that has room for what it has -/
def Room (v : Value) : Prop := ∀ ad n cap, v = .slice ad n cap → n ≤ cap
theorem owns_room {w : World} {B e m n : Nat} {v : Value} {xs : List Value} (h : w.ownsRow B e m v n xs) : Room v := by
  intro ad k c hv
  rcases h.2 with ⟨rfl, rfl⟩ | ⟨g, cap, cur, rfl, hb, hg, h2, h3, h4, h5⟩
  · cases hv; exact Nat.le_refl _
  · cases hv; exact h2
def tsk (ss : Nat → ByteArray) (i : Nat) : Nat → Int := sk (bl (ss i))
set_option maxHeartbeats 2000000 in
theorem sketches_any (ss : Nat → ByteArray) (v : Value) (len : Nat) (w : World) (hl : len ≤ 1000) (hs : ∀ i, i < len → (ss i).size ≤ 1048576) (hS : Strs w v ss len) :
    Calls Try.prog 14 #[v] w fun e w' => ∃ a b, e = .returned (.tuple #[a, b]) ∧ Row w' a 4 (skc (tsk ss)) len ∧ Row w' b 8 (whc (tsk ss)) len ∧ Room a ∧ Below w.heap.size w w' := by
  obtain ⟨ad, cap, rfl, ha⟩ := strs_addr hS
  clear hS
  have HA := Lib.hid ha
  have HS := Lib.hid hs
  clear ha hs
  go_enter Try.func14, Try.ntmps14
  go_wp2
  go_loopw [4, 5, 6] (fun a b i wr => ∃ (k : Nat) (va vb : Value), k ≤ len ∧ i = .int .i64 k ∧ va = a ∧ vb = b ∧ Hid (wr.ownsRow w.heap.size 28 4 va k (arr (k * 4) (skc (tsk ss))).toList) ∧ Hid (wr.ownsRow w.heap.size 31 8 vb k (arr (k * 8) (whc (tsk ss))).toList) ∧ Hid (∀ g, va.ownBlock = some g → vb.ownBlock ≠ some g) ∧ Hid (Below w.heap.size w wr)) (fun _ _ i _ => len - (intOf i).toNat)
  case atStart => exact ⟨0, _, _, by omega, rfl, rfl, rfl, by rw [Nat.zero_mul]; exact World.ownsRow_nil _ _ _ _, by rw [Nat.zero_mul]; exact World.ownsRow_nil _ _ _ _, (fun g hg => by simp [Value.ownBlock] at hg), Below.refl _ _⟩
  case round =>
    obtain ⟨k, va, vb, hk, rfl, rfl, rfl, hO, hP, hD, hL⟩ := hrel
    by_cases hlt : k < len
    · obtain ⟨b, o, rfl, hb, hc⟩ := HA.out (by omega)
      have ck : wr.cell? ⟨b, o + k, none⟩ = some (.string (ss k)) := by rw [hL.out.cell hb]; exact hc k hlt
      have CK : Hid (∀ W, Below w.heap.size w W → W.cell? ⟨b, o + k, none⟩ = some (.string (ss k))) := fun W hW => by rw [hW.cell hb]; exact hc k hlt
      clear hc
      have zk : (0 : Int) ≤ (k : Int) := by omega
      have yk : (k : Int) < (len : Int) := by omega
      have hsz := HS.out k hlt
      have C1 := of_any (oneS (ss k)) _ 1 _ (by omega) (by rw [one_pre, bl_len]; exact hsz) (strs_new wr #[.string (ss k)] 9 (oneS (ss k)) 1 wr.heap.size rfl (by decide) (one_cells (ss k)))
      rw [one_pre] at C1
      have C2 := fun W => rof_any (ss k) W hsz
      unfold SV at C1
      unfold WV at C2
      have HC1 := Lib.hid C1
      have HC2 := Lib.hid C2
      clear C2
      clear C1 hsz
      go_wp2_with fail
      refine HC1.out.mono ?_
      rintro e w2 ⟨rfl, hb2⟩
      have B2 : Hid (Below wr.heap.size wr w2) := alloc_below hb2
      have L2 := Lib.hid (hL.out.trans (B2.out.mono hL.out.size))
      have O2 := Lib.hid (owns_keep hO.out (Keep.all B2.out) (fun g hg => (hO.out.lt g hg).2))
      clear hb2 HC1 ck hL
      obtain ⟨g1, cap1, w3, hap, hO3, hK3, hat⟩ := app_own t34 i28 rfl (by decide) (by decide) _ ((sv_arr (sk (bl (ss k)))).trans (arr_congr fun j hj => (skc_at (tsk ss) k j hj).symm)) (fun j => rfl) O2.out L2.out.size (by omega)
      have P3 : Hid (w3.ownsRow w.heap.size 31 8 vb k (arr (k * 8) (whc (tsk ss))).toList) := owns_keep (owns_keep hP.out (Keep.all B2.out) (fun g hg => (hP.out.lt g hg).2)) hK3 (fun g hg h => hD.out g h hg)
      have D3 : Hid (∀ g, g = g1 → vb.ownBlock ≠ some g) := fun g hg h => by
        subst hg
        rcases hat with h1 | h1
        · exact hD.out g h1 h
        · have := (hP.out.lt g h).2
          have := B2.out.size
          omega
      have L3 : Hid (Below w.heap.size w w3) := L2.out.trans ((hK3.mono (fun g hg _ h => by have h1 := (O2.out.lt g h).1; have : g < w.heap.size := hg; omega) : Keep (· < w.heap.size) w2 w3).below L2.out.size)
      have O3 := Lib.hid hO3
      clear hO3 hK3 hat O2 L2 B2 hO hP hD
      go_upto_region 7 with (at_builtin; refine wpList_append_run rfl (.tmp 13) (.tmp 20) 34 34 rfl _ _ _ _ rfl rfl hap ?_)
      clear hap
      have c3 : w3.cell? ⟨b, o + k, none⟩ = some (.string (ss k)) := CK.out w3 L3.out
      go_wp2_with fail
      refine (HC2.out _).mono ?_
      rintro e w4 ⟨rfl, hb4⟩
      have L4 := Lib.hid (L3.out.trans (hb4.mono L3.out.size))
      have O4 := Lib.hid (owns_keep O3.out (Keep.all hb4) (fun g hg => (O3.out.lt g hg).2))
      have P4 := Lib.hid (owns_keep P3.out (Keep.all hb4) (fun g hg => (P3.out.lt g hg).2))
      obtain ⟨g2, cap2, w5, hap, hP5, hK5, hat⟩ := app_own t35 i31 rfl (by decide) (by decide) _ ((wv_arr (sk (bl (ss k)))).trans (arr_congr fun j hj => (whc_at (tsk ss) k j hj).symm)) (fun j => rfl) P4.out L4.out.size (by omega)
      have O5 : Hid (w5.ownsRow w.heap.size 28 4 (.slice (some ⟨g1, 0, none⟩) (k + 1) cap1) (k + 1) (arr ((k + 1) * 4) (skc (tsk ss))).toList) := owns_keep O4.out hK5 (fun g hg h => D3.out g (by simp [Value.ownBlock] at hg; exact hg.symm) h)
      have D5 : Hid (∀ g, (Value.slice (some ⟨g1, 0, none⟩) (k + 1) cap1).ownBlock = some g → (Value.slice (some ⟨g2, 0, none⟩) (k + 1) cap2).ownBlock ≠ some g) := fun g hg h => by
        simp [Value.ownBlock] at hg h
        subst hg
        rcases hat with h1 | h1
        · exact D3.out _ rfl (by rw [h1, h])
        · have := (O4.out.lt g1 rfl).2
          omega
      have L5 : Hid (Below w.heap.size w w5) := L4.out.trans ((hK5.mono (fun g hg _ h => by have h1 := (P4.out.lt g h).1; have : g < w.heap.size := hg; omega) : Keep (· < w.heap.size) w4 w5).below L4.out.size)
      have P5 := Lib.hid hP5
      clear hP5 hK5 hat O4 P4 L4 O3 P3 L3 D3 hb4 c3 CK HC2
      go_wp2_with (at_builtin; refine wpList_append_run rfl (.tmp 22) (.tmp 28) 35 35 rfl _ _ _ _ rfl rfl hap ?_)
      clear hap
      go_roundw
      case rel => exact ⟨k + 1, _, _, by omega, by go_num, rfl, rfl, O5, P5, D5, L5⟩
      case measure => simp [intOf]; omega
    · have e : k = len := by omega
      subst e
      have yk : (k : Int) ≤ (k : Int) := by omega
      go_wp2
      go_ret2
      exact ⟨_, _, rfl, owns_row hO.out, owns_row hP.out, owns_room hO.out, hL.out⟩
theorem order_any (gs : Nat → Nat → Int) (v : Value) (len : Nat) (w : World) (hgs : ∀ i, i < len → Ok (gs i)) (hl : len ≤ 100) (hR : Row w v 4 (skc gs) len) (hr : Room v) :
    Calls Try.prog 20 #[v] w fun e w' => ∃ ad cap, e = .returned (.slice ad len cap) ∧ Row w' (.slice ad len cap) 1 (inc (pl (dist gs) len)) len ∧ Below w.heap.size w w' := by
  rcases hR with ⟨ad, cap, rfl, rfl⟩ | ⟨b, o, cap, rfl, h0, hb, hc⟩
  · refine (order_none ad cap w).mono ?_
    rintro e w' ⟨rfl, rfl⟩
    exact ⟨none, 0, rfl, Or.inl ⟨_, _, rfl, rfl⟩, Below.refl _ _⟩
  · obtain ⟨n, rfl⟩ : ∃ n, len = n + 1 := ⟨len - 1, by omega⟩
    refine (order_some gs b o cap n w hgs (by omega) hb (hr _ _ _ rfl) hc).mono ?_
    rintro e w' ⟨g, rfl, h1, h2⟩
    exact ⟨_, _, rfl, h1, h2⟩
end Go.Proofs.Ytmcaapgcplhhmaa
