import Derived.Test.YtmcaapgcplhhmaaW4
/- The references of a text, their comparison with a sketch, and how far they are apart; great; Join. -/
namespace Go.Proofs.Ytmcaapgcplhhmaa
open Go.RowKit
attribute [local go_sem] run_store_complex
theorem ty31 : Try.prog.underlying 31 = some (.array 8 3) := by kernel_rfl
theorem sz31 : (Try.prog.info? 31).map (·.size) = some 8 := by kernel_rfl
theorem zero_wv : #[.int .i64 0, .int .i64 0, .int .i64 0, .int .i64 0, .int .i64 0, .int .i64 0, .int .i64 0, .int .i64 0] = arr 8 (wv (sk [])) := rfl
theorem wv_next (l : List UInt8) (b : UInt8) (j : Nat) : (if j = 2 * (b.toNat % 4) + 1 then Value.int .i64 (sk l (2 * (b.toNat % 4) + 1) + hi b) else if j = 2 * (b.toNat % 4) then Value.int .i64 (sk l (2 * (b.toNat % 4)) + lo b) else wv (sk l) j) = wv (sk (l ++ [b])) j := by
  unfold wv
  rw [sk_snoc]
  by_cases c : j = 2 * (b.toNat % 4) + 1
  · subst c
    rw [if_pos rfl, part_im]
  · rw [if_neg c]
    by_cases c2 : j = 2 * (b.toNat % 4)
    · subst c2
      rw [if_pos rfl, part_re]
    · rw [if_neg c2, part_no b j (by omega), Int.add_zero]
set_option maxHeartbeats 1000000 in
theorem rof_any (s : ByteArray) (w : World) (hs : s.size ≤ 1048576) :
    Calls Try.prog 12 #[.string s] w fun e w' => e = .returned (WV (sk (bl s))) ∧ Below w.heap.size w w' := by
  go_enter Try.func12, Try.ntmps12
  go_wp2
  go_loopw [4, 5] (fun i _ wr => ∃ k : Nat, k ≤ s.size ∧ i = .int .i64 k ∧ Hid (Blk wr w.heap.size 31 8 (wv (sk []))) ∧ Hid (Blk wr (w.heap.size + 1) 31 8 (wv (sk ((bl s).take k)))) ∧ Hid (Below w.heap.size w wr)) (fun i _ _ => s.size - (intOf i).toNat)
  case atStart =>
    obtain ⟨h1, h2, h3⟩ := two_new w (E := 31) (F := 31) zero_wv zero_wv
    exact ⟨0, by omega, rfl, h1, h2, h3⟩
  case round =>
    obtain ⟨j, hj, rfl, hB0, hB1, hL⟩ := hrel
    by_cases hlt : j < s.size
    · have i1 := idx_str s j hlt
      have yj : (j : Int) < (s.size : Int) := by omega
      have zj : (0 : Int) ≤ (j : Int) := by omega
      have HT : Hid ((bl s).take (j + 1) = (bl s).take j ++ [sAt s j]) := take_next s j hlt
      have hlen : ((bl s).take j).length ≤ 1048576 := by rw [List.length_take, bl_len]; omega
      generalize (bl s).take j = m at hB1 HT hlen
      generalize sAt s j = c at i1 HT
      obtain ⟨q, hq⟩ : ∃ q, q = c.toNat % 4 := ⟨_, rfl⟩
      have q4 : q < 4 := by omega
      have t1 : ((c.toNat : Int)) % 4 = (q : Int) := by omega
      have t2 : (c.toNat : Int) % 16 = lo c := by unfold lo; omega
      have t3 : (c.toNat : Int) / 16 = hi c := by unfold hi; omega
      have zc : (0 : Int) ≤ (c.toNat : Int) := by omega
      have yc : (c.toNat : Int) < 256 := by have := c.toNat_lt; omega
      have wc : IntKind.i64.wrap (c.toNat : Int) = (c.toNat : Int) := IntWalk.i64_in _ (by omega)
      have yq : (q : Int) < 4 := by omega
      have zq : (0 : Int) ≤ (q : Int) := by omega
      have l1 := sk_le m (2 * q)
      have l2 := sk_le m (2 * q + 1)
      have l3 := lo_le c
      have l4 := hi_le c
      have HV : Hid (∀ i, (if i = 2 * q + 1 then Value.int .i64 (sk m (2 * q + 1) + hi c) else if i = 2 * q then Value.int .i64 (sk m (2 * q) + lo c) else wv (sk m) i) = wv (sk (m ++ [c])) i) := fun i => by rw [hq]; exact wv_next m c i
      have c1 : wr.cell? ⟨w.heap.size + 1, 2 * q, none⟩ = some (.int .i64 (sk m (2 * q))) := hB1.out.cell (2 * q) (by omega)
      have f1 : wr.frozen? ⟨w.heap.size + 1, 2 * q, none⟩ = false := hB1.out.frozen (2 * q)
      have b1 : 0 ≤ sk m (2 * q) ∧ sk m (2 * q) ≤ 15728640 := by omega
      have b2 : Hid (0 ≤ sk m (2 * q + 1) ∧ sk m (2 * q + 1) ≤ 15728640) := by show _ ∧ _; omega
      have B4 := Lib.hid l4
      clear hlen hq l1 l2 l4
      obtain ⟨y1, hy1⟩ : ∃ x, x = sk m (2 * q) := ⟨_, rfl⟩
      obtain ⟨y2, hy2⟩ : ∃ x, x = sk m (2 * q + 1) := ⟨_, rfl⟩
      rw [← hy1] at c1 b1 HV
      rw [← hy2] at HV b2
      have HY2 := Lib.hid hy2
      clear hy1 hy2
      go_upto_region 7 with fail
      have H0 := Lib.hid (hB0.out.setOther ⟨w.heap.size + 1, 2 * q, none⟩ (.int .i64 (y1 + lo c)) (by show w.heap.size + 1 ≠ _; omega))
      have H1 := Lib.hid (hB1.out.set (2 * q) (.int .i64 (y1 + lo c)))
      have H2 := Lib.hid (hL.out.setCell (p := ⟨w.heap.size + 1, 2 * q, none⟩) (by show w.heap.size ≤ w.heap.size + 1; omega) (.int .i64 (y1 + lo c)))
      clear hB0 hB1 hL c1 f1 b1 l3 t2
      generalize wr.setCell ⟨w.heap.size + 1, 2 * q, none⟩ (.int .i64 (y1 + lo c)) = w5 at H0 H1 H2 ⊢
      have b2' := b2.out
      have l4 := B4.out
      have c1 : w5.cell? ⟨w.heap.size + 1, 2 * q + 1, none⟩ = some (.int .i64 y2) := by
        have h := H1.out.cell (2 * q + 1) (by omega)
        rw [if_neg (by omega)] at h
        rw [HY2.out]
        exact h
      have f1 : w5.frozen? ⟨w.heap.size + 1, 2 * q + 1, none⟩ = false := H1.out.frozen (2 * q + 1)
      go_wp2
      have G0 := Lib.hid (H0.out.setOther ⟨w.heap.size + 1, 2 * q + 1, none⟩ (.int .i64 (y2 + hi c)) (by show w.heap.size + 1 ≠ _; omega))
      have G1 := Lib.hid ((H1.out.set (2 * q + 1) (.int .i64 (y2 + hi c))).congr (fun i _ => HV.out i))
      have G2 := Lib.hid (H2.out.setCell (p := ⟨w.heap.size + 1, 2 * q + 1, none⟩) (by show w.heap.size ≤ w.heap.size + 1; omega) (.int .i64 (y2 + hi c)))
      rw [← HT.out] at G1
      go_roundw
      case rel => exact ⟨j + 1, by omega, by go_num, G0, G1, G2⟩
      case measure => simp [intOf]; omega
    · have e : j = s.size := by omega
      subst e
      have HT : (bl s).take s.size = bl s := List.take_of_length_le (by rw [bl_len]; omega)
      rw [HT] at hB1
      go_wp2_with (first | (refine wpList_load_blk rfl 31 (.tmp 3) rfl (w.heap.size + 1) rfl 31 8 (wv (sk (bl s))) hB1.out _ ty31 rfl sz31 ?_) | (refine wpList_store_blk rfl 31 (.tmp 2) (.tmp 42) rfl w.heap.size 8 (wv (sk (bl s))) (wv (sk [])) rfl rfl 31 hB0.out sz31 (fun _ _ => rfl) ?_))
      exact bodyPost_ret (v := WV (sk (bl s))) (results_blk rfl _ _ w.heap.size 31 8 _ (hB0.out.setRow _) _ rfl ty31 rfl sz31) rfl ⟨rfl, below_setRow hL.out (Nat.le_refl _) _⟩
end Go.Proofs.Ytmcaapgcplhhmaa
