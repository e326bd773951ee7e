import Derived.Test.YtlbclfponongbaaGreatDoorO3m
import Derived.Test.YtlbclfponongbaaGreatDoorSg
import Derived.Deep.RegionHeld3
/- Whether entries may be: the reference's answer. -/
namespace Go.Proofs.YtlbclfponongbaaGreatDoor
open Go.RowKit Classical
theorem less_le (a b : List UInt8) (h : Op.bytesLess a b = true) : Op.bytesLess (bs b).toList (bs a).toList = false ∧ ((bs b).toList == (bs a).toList) = false := by
  rw [toList_bs, toList_bs]
  refine ⟨bl_asymm _ _ h, ?_⟩
  cases c : b == a
  · rfl
  · have e : b = a := by simpa using c
    subst e
    rw [bl_irrefl] at h
    cases h
theorem not_less_le (a b : List UInt8) (h : ¬ Op.bytesLess a b = true) : Op.bytesLess (bs b).toList (bs a).toList = true ∨ (Op.bytesLess (bs b).toList (bs a).toList = false ∧ ((bs b).toList == (bs a).toList) = true) := by
  rw [toList_bs, toList_bs]
  cases c : Op.bytesLess b a
  · right
    have := bl_tri b a c (by simpa using h)
    subst this
    exact ⟨rfl, by simp⟩
  · exact Or.inl rfl
set_option maxHeartbeats 2000000 in
set_option maxRecDepth 100000 in
theorem qents_any (es : Nat → Ent) (v : Value) (n : Nat) (w : World) (hR : Row w v 34 (ec es) n) (hn : n ≤ 140737488355328) (hs : ∀ i, i < n → (es i).name.length ≤ 281474976710656) :
    Calls Tryz.prog 34 #[v] w fun e w' => e = .returned (.bool (decide (entsOk es n))) ∧ Below w.heap.size w w' := by
  obtain ⟨ad, cap, rfl, ha⟩ := row_addr hR
  have HA := Lib.hid ha
  have HS := Lib.hid hs
  clear ha hs hR
  by_cases h32 : 32 < n
  · have e : decide (entsOk es n) = false := decide_eq_false fun h => by have := h.1; omega
    have t1 : (32 : Int) < (n : Int) := by omega
    rw [e]
    clear h32 e
    go_enter Tryz.func34, Tryz.ntmps34
    go_wp2
    go_ret
    exact ⟨rfl, Below.refl _ _⟩
  · have t1 : (n : Int) ≤ 32 := by omega
    have H32 : Hid (n ≤ 32) := by show n ≤ 32; omega
    have bad : Hid (∀ k, k < n → ¬ (nameOk (es k).name ∧ kindOk (es k).kind ∧ (0 < k → Op.bytesLess (es (k - 1)).name (es k).name = true)) → decide (entsOk es n) = false) := fun k hk h => decide_eq_false fun h2 => h (((entsOk_iff es n).1 h2).2 k hk)
    clear h32
    go_enter Tryz.func34, Tryz.ntmps34
    go_wp2
    go_loopw [3] (fun i wr => ∃ k : Nat, k ≤ n ∧ i = .int .i64 k ∧ Hid (okE es k) ∧ Hid (Below w.heap.size w wr)) (fun i _ => n - (intOf i).toNat)
    case atStart => exact ⟨0, by omega, rfl, okE_zero es, Below.refl _ _⟩
    case round =>
      obtain ⟨k, hk, rfl, hO, hL⟩ := hrel
      by_cases hlt : k < n
      · obtain ⟨b, o, rfl, hb, hc0⟩ := HA.out (by omega)
        have HC1 : Hid (At wr b o (n * 34) (ec es)) := hc0.below hL.out hb
        have c0 : wr.cell? ⟨b, o + k * 34, none⟩ = some (.string (bs (es k).name)) := (HC1.out.ent k hlt) 0 (by omega)
        have c1 : wr.cell? ⟨b, o + k * 34 + 1, none⟩ = some (.int .i64 (es k).kind) := (HC1.out.ent k hlt) 1 (by omega)
        have hz := HS.out k hlt
        have zk : (0 : Int) ≤ (k : Int) := by omega
        have yk : (k : Int) < (n : Int) := by omega
        have BAD := Lib.hid (bad.out k hlt)
        have HLT := Lib.hid hlt
        have N := oname_any (es k).name wr hz
        have N := qname_any (es k).name wr hz
        have hnm := nmB_iff (es k).name
        clear hz hc0 hb
        by_cases hN : nmB (es k).name = true
        · rw [hN] at N
          have HN := Lib.hid (hnm.1 hN)
          have hlen : (bs (es k).name).size ≤ 32 := by rw [bs_size]; exact HN.out.2.1
          clear hN hnm
          by_cases hK1 : (es k).kind < 1
          · have E := Lib.hid (BAD.out fun h => by rcases h.2.1 with h | h <;> omega)
            go_wp2_with fail
            refine N.mono ?_
            rintro e w3 ⟨rfl, rfl⟩
            go_wp2
            go_ret
            rw [E.out]
            exact ⟨rfl, hL.out⟩
          · have d1 : decide ((es k).kind < 1) = false := decide_eq_false hK1
            by_cases hK2 : 2 < (es k).kind
            · have E := Lib.hid (BAD.out fun h => by rcases h.2.1 with h | h <;> omega)
              clear hK1
              go_wp2_with fail
              refine N.mono ?_
              rintro e w3 ⟨rfl, rfl⟩
              go_wp2
              go_ret
              rw [E.out]
              exact ⟨rfl, hL.out⟩
            · have d2 : decide (2 < (es k).kind) = false := decide_eq_false hK2
              have HK : Hid (kindOk (es k).kind) := by show (es k).kind = 1 ∨ (es k).kind = 2; omega
              clear hK1 hK2
              have ways : k = 0 ∨ ∃ m, k = m + 1 := by rcases k with _ | m; exact Or.inl rfl; exact Or.inr ⟨m, rfl⟩
              rcases ways with rfl | ⟨m, rfl⟩
              · have O2 := Lib.hid (okE_succ hO.out HN.out HK.out fun h => absurd h (by omega))
                simp only [Nat.zero_mul, Nat.add_zero] at c0 c1
                go_wp2_with fail
                refine N.mono ?_
                rintro e w3 ⟨rfl, rfl⟩
                go_wp2
                go_quiet (fail)
                go_wp2
                go_roundw
                case rel => exact ⟨1, HLT.out, by go_num, O2, below_drewN hL.out _⟩
                case measure => simp [intOf]; have := HLT.out; omega
              · have cm : wr.cell? ⟨b, o + m * 34, none⟩ = some (.string (bs (es m).name)) := (HC1.out.ent m (by omega)) 0 (by omega)
                have zm : (0 : Int) ≤ (m : Int) := by omega
                have ym : (m : Int) < (n : Int) := by omega
                have wm : IntKind.i64.wrap (m : Int) = (m : Int) := IntWalk.i64_in _ (by omega)
                have wm2 : IntKind.i64.wrap ((m : Int) + 1 - 1) = (m : Int) := by rw [show (m : Int) + 1 - 1 = (m : Int) by omega]; exact wm
                by_cases hl : Op.bytesLess (es m).name (es (m + 1)).name = true
                · have O2 := Lib.hid (okE_succ hO.out HN.out HK.out fun _ => hl)
                  obtain ⟨bl1, bl2⟩ := less_le _ _ hl
                  clear hl
                  go_wp2_with fail
                  refine N.mono ?_
                  rintro e w3 ⟨rfl, rfl⟩
                  go_wp2
                  go_quiet (fail)
                  go_wp2
                  go_roundw
                  case rel => exact ⟨m + 1 + 1, HLT.out, by go_num, O2, below_drewN hL.out _⟩
                  case measure => simp [intOf]; have := HLT.out; omega
                · have E := Lib.hid (BAD.out fun h => hl (h.2.2 (by omega)))
                  have bl := not_less_le _ _ hl
                  clear hl
                  rcases bl with bl1 | ⟨bl1, bl2⟩
                  all_goals (go_wp2_with fail; refine N.mono ?_; rintro e w3 ⟨rfl, rfl⟩; go_wp2; go_quiet (fail); go_wp2)
                  all_goals go_ret
                  all_goals rw [E.out]
                  all_goals exact ⟨rfl, below_drewN hL.out _⟩
        · have hN2 : nmB (es k).name = false := by simpa using hN
          rw [hN2] at N
          have E := Lib.hid (BAD.out fun h => hN (hnm.2 h.1))
          clear hN hN2 hnm
          go_wp2_with fail
          refine N.mono ?_
          rintro e w3 ⟨rfl, rfl⟩
          go_wp2
          go_ret
          rw [E.out]
          exact ⟨rfl, hL.out⟩
      · have ek : k = n := by omega
        subst ek
        have E := Lib.hid (decide_eq_true ((entsOk_iff es k).2 ⟨H32.out, hO.out⟩))
        have yk : (k : Int) ≤ (k : Int) := by omega
        clear hlt
        go_wp2
        go_ret
        rw [E.out]
        exact ⟨rfl, hL.out⟩
end Go.Proofs.YtlbclfponongbaaGreatDoor
/- Whether a commit may be: the program's answer, and the reference's. -/
namespace Go.Proofs.YtlbclfponongbaaGreatDoor
open Go.RowKit Classical
theorem id_toArray (f : Nat → UInt8) : ((arr 32 (bv f)).toList).toArray = arr 32 (bv f) := Array.toArray_toList
theorem eqlId (f g : Nat → UInt8) (w : World) : (binOp .eql 29 (.agg (arr 32 (bv f))) (.agg (arr 32 (bv g)))).run Tryz.prog w = .ok (.bool (decide (same32 f g))) w := by
  rw [run_eql_arr8 w 29 5 32 f g ty30 t5 (by kernel_rfl)]
  congr 3
theorem neqId (f g : Nat → UInt8) (w : World) : (binOp .neq 29 (.agg (arr 32 (bv f))) (.agg (arr 32 (bv g)))).run Tryz.prog w = .ok (.bool (!decide (same32 f g))) w := by
  rw [run_neq_arr8 w 29 5 32 f g ty30 t5 (by kernel_rfl)]
  congr 4
/- is an id among the first n? -/
def among (p : Nat → Nat → UInt8) (n : Nat) (f : Nat → UInt8) : Prop := ∃ i, i < n ∧ same32 (p i) f
theorem cont_any (p : Nat → Nat → UInt8) (f : Nat → UInt8) (b o n c : Nat) (w : World) (hn : n ≤ 9223372036854775807) (hA : At w b o (n * 32) (pc p)) :
    Calls Tryz.prog 93 #[.slice (some ⟨b, o, none⟩) n c, .agg (arr 32 (bv f))] w fun e w' => e = .returned (.bool (decide (among p n f))) ∧ Below w.heap.size w w' := by
  have h := AnyQ.slices_Contains containsI 32 Tryz.isAgg29 Tryz.sizeOf29 (fun f : Nat → UInt8 => (arr 32 (bv f)).toList) (fun x => by rw [Array.length_toList, arr_size]) (fun x y => decide (same32 y x))
    ⟨fun x y w => by
      show (binOp .eql 29 (.agg (arr 32 (bv x)).toList.toArray) (.agg (arr 32 (bv y)).toList.toArray)).run Tryz.prog w = _
      rw [id_toArray, id_toArray, eqlId]
      rw [show decide (same32 x y) = decide (same32 y x) from decide_eq_decide.2 ⟨fun h i hi => (h i hi).symm, fun h i hi => (h i hi).symm⟩], GuardAt.agg _ (by kernel_rfl)⟩
    b o n c ((List.range n).map p) f w (by simp) hn (fun j hj i v hv => by
      have hj2 : j < n := by simpa using hj
      have e : ((List.range n).map p)[j]! = p j := by simp [hj2]
      rw [e] at hv
      rw [(hA.idk j hj2).range i v hv])
  rw [id_toArray] at h
  refine h.mono ?_
  rintro e w' ⟨h1, h2⟩
  refine ⟨?_, h2⟩
  rw [h1]
  congr 2
  apply Bool.eq_iff_iff.2
  rw [List.any_eq_true, decide_eq_true_iff]
  unfold among
  rw [List.take_of_length_le (by simp)]
  constructor
  · rintro ⟨x, hx, h⟩
    obtain ⟨i, hi, rfl⟩ := List.mem_map.1 hx
    exact ⟨i, List.mem_range.1 hi, of_decide_eq_true h⟩
  · rintro ⟨i, hi, h⟩
    exact ⟨p i, List.mem_map.2 ⟨i, List.mem_range.2 hi, rfl⟩, decide_eq_true h⟩
/- the first k parents are all unlike -/
def okC (p : Nat → Nat → UInt8) (k : Nat) : Prop := ∀ i j, i < j → j < k → ¬ same32 (p i) (p j)
theorem okC_zero (p : Nat → Nat → UInt8) : okC p 0 := fun i j _ h => absurd h (by omega)
theorem okC_succ {p : Nat → Nat → UInt8} {k : Nat} (h : okC p k) (h2 : ¬ among p k (p k)) : okC p (k + 1) := by
  intro i j hij hj
  by_cases c : j < k
  · exact h i j hij c
  · have e : j = k := by omega
    subst e
    exact fun h3 => h2 ⟨i, hij, h3⟩
theorem okC_not {p : Nat → Nat → UInt8} {k n : Nat} (hk : k < n) (h2 : among p k (p k)) : ¬ okC p n := by
  obtain ⟨i, hi, h⟩ := h2
  exact fun h3 => h3 i k hi hk h
theorem comOk_iff (c : Com) : comOk c ↔ c.n ≤ 4 ∧ c.text.length ≤ 64 ∧ okC c.par c.n := Iff.rfl
end Go.Proofs.YtlbclfponongbaaGreatDoor
