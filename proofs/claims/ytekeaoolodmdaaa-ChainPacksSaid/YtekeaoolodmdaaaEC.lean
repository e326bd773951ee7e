import Derived.Test.YtekeaoolodmdaaaE7
import Derived.Test.YtekeaoolodmdaaaE1
/- A piece read. -/
namespace Go.Proofs.Ytekeaoolodmdaaa
set_option maxRecDepth 100000
open Go.RowKit
attribute [local go_sem] run_store_complex
theorem num_small (m : Int) (h0 : 0 ≤ m) (d : List UInt8) (p : Nat) (e : Int) : (rNum m d p e).1 ≤ 1099511627775 := by
  by_cases c : e = 0
  · subst c; exact (num_value m d p h0).2
  · rw [num_err c]; simp
theorem rpz_smallp (m1 m2 : Int) (h1 : 0 ≤ m1) (h2 : 0 ≤ m2) (d : List UInt8) (p : Nat) (e : Int) : small (rpz m1 m2 d p e).1 := by
  have a := num_small m1 h1 d p e
  unfold rpz small
  split
  · exact ⟨Nat.zero_le _, Nat.zero_le _⟩
  · exact ⟨num_small m2 h2 _ _ _, by show (rNum m1 d p e).1 / 2 ≤ _; omega⟩
set_option maxHeartbeats 1000000 in
theorem readpiece_any {w : World} {r : Nat} {d : List UInt8} {p : Nat} {e : Int} (h : Rd w r d p e) (hp : p ≤ d.length) (hl : d.length ≤ 281474976710656) :
    Calls Try.prog 72 #[.pointer (some ⟨r, 0, none⟩)] w fun v w' => v = .returned (pv (rpz big big d p e).1) ∧ Rd w' r d (rpz big big d p e).2.1 (rpz big big d p e).2.2 ∧ Keep (fun k => k ≠ r) w w' := by
  have hr := h.lt
  have C1 : Hid (∀ W, Rd W r d p e → Calls Try.prog 70 #[.pointer (some ⟨r, 0, none⟩), .int .i64 1099511627775] W fun v w' => v = .returned (.int .i64 (rNum big d p e).1) ∧ Rd w' r d (rNum big d p e).2.1 (rNum big d p e).2.2 ∧ Keep (fun k => k ≠ r) W w') := fun W hW => rnum_any big hW hp hl
  have hp1 := rNum_le big d p e hp
  have hk := num_small big (by decide) d p e
  have R : rpz big big d p e = if (rNum big d p e).1 % 2 = 0 then (⟨0, 0, (rRaw ((rNum big d p e).1 / 2 : Nat) d (rNum big d p e).2.1 (rNum big d p e).2.2).1⟩, (rRaw ((rNum big d p e).1 / 2 : Nat) d (rNum big d p e).2.1 (rNum big d p e).2.2).2)
      else (⟨(rNum big d (rNum big d p e).2.1 (rNum big d p e).2.2).1, (rNum big d p e).1 / 2, []⟩, (rNum big d (rNum big d p e).2.1 (rNum big d p e).2.2).2) := rfl
  rw [R]
  obtain ⟨k, p1, e1, hA⟩ : ∃ k p1 e1, rNum big d p e = (k, p1, e1) := ⟨_, _, _, rfl⟩
  rw [hA] at C1 hp1 hk ⊢
  clear hA R
  dsimp only at C1 hp1 hk ⊢
  have w5 : IntKind.i64.wrap ((k : Int).tdiv 2) = ((k / 2 : Nat) : Int) := by
    rw [Int.tdiv_eq_ediv_of_nonneg (by omega)]
    rw [show (k : Int) / 2 = ((k / 2 : Nat) : Int) by omega]
    exact IntWalk.i64_in _ (by omega)
  have H0 : Rd (w.alloc (.cells #[.complex .f64 0 0, .string ⟨#[]⟩] 76)) r d p e := h.keep ((Keep.refl (fun _ => True) w).alloc _) trivial
  have HH := Lib.hid H0
  have HLT := Lib.hid hr
  by_cases c : k % 2 = 0
  · rw [if_pos c]
    have C2 : Hid (∀ x : Int, x = ((k / 2 : Nat) : Int) → ∀ W, Rd W r d p1 e1 → Calls Try.prog 79 #[.pointer (some ⟨r, 0, none⟩), .int .i64 x] W fun v w' => v = .returned (.string (bs (rRaw (k / 2 : Nat) d p1 e1).1)) ∧ Rd w' r d (rRaw (k / 2 : Nat) d p1 e1).2.1 (rRaw (k / 2 : Nat) d p1 e1).2.2 ∧ Keep (fun k => k ≠ r) W w') := fun x hx W hW => by
      subst hx
      exact rraw_any ((k / 2 : Nat) : Int) hW hp1 hl
    have w6 : (k : Int).tmod 2 = 0 := by rw [Int.tmod_eq_emod_of_nonneg (by omega)]; omega
    generalize rRaw ((k / 2 : Nat) : Int) d p1 e1 = A at *
    have hpv : pv ⟨0, 0, A.1⟩ = .agg #[.complex .f64 0 0, .string (bs A.1)] := by
      show Value.agg #[.complex .f64 (FB 0) (FB 0), _] = _
      rw [FB_0]
    rw [hpv]
    generalize bs A.1 = sb at *
    generalize hq : k / 2 = q at *
    clear hpv h H0 hr hp hl hp1
    go_enter Try.func72, Try.ntmps72
    go_wp2_with fail
    refine (C1.out _ HH.out).mono ?_
    rintro v w1 ⟨rfl, R1, K1⟩
    have HR1 := Lib.hid R1
    have HK1 := Lib.hid (((Keep.refl (fun k => k ≠ r) w).alloc (.cells #[.complex .f64 0 0, .string ⟨#[]⟩] 76)).trans K1)
    have b1 : w1.heap[w.heap.size]? = some (.cells #[.complex .f64 0 0, .string ⟨#[]⟩] 76 (0, 0)) := K1.at (by have := HLT.out; omega) (heap_alloc_new _ _)
    have HB1 := Lib.hid b1
    clear R1 K1 C1 HH b1
    go_wp2_with fail
    refine (C2.out _ (by omega) _ HR1.out).mono ?_
    rintro v w2 ⟨rfl, R2, K2⟩
    have b2 := K2.at (by have := HLT.out; omega) HB1.out
    have c0 := cell_of_row w2 w.heap.size 0 _ _ _ b2
    have c1 := cell_of_row w2 w.heap.size 1 _ _ _ b2
    have f0 := frozen_of_row w2 w.heap.size 0 _ _ b2
    have f1 := frozen_of_row w2 w.heap.size 1 _ _ b2
    have hne : w.heap.size ≠ r := by have := HLT.out; omega
    have FIN : Hid (∀ (u v : Value), ((w2.setCell ⟨w.heap.size, 0, none⟩ u).setCell ⟨w.heap.size, 1, none⟩ v).heap[w.heap.size]? = some (.cells #[u, v] 76 (0, 0)) ∧ Rd ((w2.setCell ⟨w.heap.size, 0, none⟩ u).setCell ⟨w.heap.size, 1, none⟩ v) r d A.2.1 A.2.2 ∧ Keep (fun k => k ≠ r) w ((w2.setCell ⟨w.heap.size, 0, none⟩ u).setCell ⟨w.heap.size, 1, none⟩ v)) := fun u v => by
      have s1 := heap_setCell_same w2 w.heap.size 0 _ 76 u b2
      have s2 := heap_setCell_same _ w.heap.size 1 _ 76 v s1
      have kk : Keep (fun k => k = r) w2 ((w2.setCell ⟨w.heap.size, 0, none⟩ u).setCell ⟨w.heap.size, 1, none⟩ v) := ((Keep.refl _ w2).setCell hne u).setCell hne v
      refine ⟨s2, R2.keep kk rfl, ?_⟩
      have k0 := HK1.out.trans K2
      exact ⟨k0.os, k0.tape, k0.output, by simp [World.setCell]; exact k0.size, fun j hj hlj => by
        rw [show ((w2.setCell ⟨w.heap.size, 0, none⟩ u).setCell ⟨w.heap.size, 1, none⟩ v).heap[j]? = w2.heap[j]? from (((Keep.refl (fun k => k ≠ w.heap.size) w2).setCell (fun h => h rfl) u).setCell (fun h => h rfl) v).block j (by omega) (Nat.lt_of_lt_of_le hlj k0.size)]
        exact k0.block j hj hlj⟩
    clear R2 K2 b2 HB1 HR1 HK1 C2
    go_wp2
    obtain ⟨g1, g2, g3⟩ := FIN.out (.complex .f64 0 0) (.string sb)
    exact bodyPost_ret (v := .agg #[.complex .f64 0 0, .string sb]) (results_cell_row rfl _ _ _ _ _ _ _ rfl g1 Try.underlying76 rfl (by kernel_rfl)) rfl ⟨rfl, g2, g3⟩
  · rw [if_neg c]
    have C2 : Hid (∀ W, Rd W r d p1 e1 → Calls Try.prog 70 #[.pointer (some ⟨r, 0, none⟩), .int .i64 1099511627775] W fun v w' => v = .returned (.int .i64 (rNum big d p1 e1).1) ∧ Rd w' r d (rNum big d p1 e1).2.1 (rNum big d p1 e1).2.2 ∧ Keep (fun k => k ≠ r) W w') := fun W hW => rnum_any big hW hp1 hl
    have w6 : ¬ (k : Int).tmod 2 = 0 := by rw [Int.tmod_eq_emod_of_nonneg (by omega)]; omega
    generalize rNum big d p1 e1 = A at *
    have C3 : Hid (∀ x : Int, x = ((k / 2 : Nat) : Int) → ∀ W, Calls Try.prog 52 #[.int .i64 (A.1 : Int), .int .i64 x] W fun e w' => e = .returned (.agg #[.complex .f64 (FB (A.1 : Int)) (FB ((k / 2 : Nat) : Int)), .string ⟨#[]⟩]) ∧ Below W.heap.size W w') := fun x hx W => by
      subst hx
      exact copyof_any A.1 (k / 2) W
    have hpv : pv ⟨A.1, k / 2, []⟩ = .agg #[.complex .f64 (FB (A.1 : Int)) (FB ((k / 2 : Nat) : Int)), .string ⟨#[]⟩] := rfl
    rw [hpv]
    generalize FB (A.1 : Int) = P at *
    generalize FB ((k / 2 : Nat) : Int) = N at *
    generalize hq : k / 2 = q at *
    clear hpv h H0 hr hp hl hp1
    go_enter Try.func72, Try.ntmps72
    go_wp2_with fail
    refine (C1.out _ HH.out).mono ?_
    rintro v w1 ⟨rfl, R1, K1⟩
    have HR1 := Lib.hid R1
    have HK1 := Lib.hid (((Keep.refl (fun k => k ≠ r) w).alloc (.cells #[.complex .f64 0 0, .string ⟨#[]⟩] 76)).trans K1)
    have b1 : w1.heap[w.heap.size]? = some (.cells #[.complex .f64 0 0, .string ⟨#[]⟩] 76 (0, 0)) := K1.at (by have := HLT.out; omega) (heap_alloc_new _ _)
    have HB1 := Lib.hid b1
    clear R1 K1 C1 HH b1
    go_wp2_with fail
    refine (C2.out _ HR1.out).mono ?_
    rintro v w2 ⟨rfl, R2, K2⟩
    have b2 := K2.at (by have := HLT.out; omega) HB1.out
    have HR2 := Lib.hid R2
    have HK2 := Lib.hid (HK1.out.trans K2)
    have HB2 := Lib.hid b2
    clear R2 K2 b2 HB1 HR1 HK1 C2
    go_wp2_with fail
    refine (C3.out _ (by omega) _).mono ?_
    rintro v w3 ⟨rfl, B3⟩
    have lt2 := lt_of_block HB2.out
    have b3 : w3.heap[w.heap.size]? = some (.cells #[.complex .f64 0 0, .string ⟨#[]⟩] 76 (0, 0)) := by rw [B3.block _ lt2]; exact HB2.out
    have R3 : Rd w3 r d A.2.1 A.2.2 := HR2.out.keep (Keep.all (K := fun _ => True) B3) trivial
    have c0 := cell_of_row w3 w.heap.size 0 _ _ _ b3
    have c1 := cell_of_row w3 w.heap.size 1 _ _ _ b3
    have f0 := frozen_of_row w3 w.heap.size 0 _ _ b3
    have f1 := frozen_of_row w3 w.heap.size 1 _ _ b3
    have hne : w.heap.size ≠ r := by have := HLT.out; omega
    have FIN : Hid (∀ (u v : Value), ((w3.setCell ⟨w.heap.size, 0, none⟩ u).setCell ⟨w.heap.size, 1, none⟩ v).heap[w.heap.size]? = some (.cells #[u, v] 76 (0, 0)) ∧ Rd ((w3.setCell ⟨w.heap.size, 0, none⟩ u).setCell ⟨w.heap.size, 1, none⟩ v) r d A.2.1 A.2.2 ∧ Keep (fun k => k ≠ r) w ((w3.setCell ⟨w.heap.size, 0, none⟩ u).setCell ⟨w.heap.size, 1, none⟩ v)) := fun u v => by
      have s1 := heap_setCell_same w3 w.heap.size 0 _ 76 u b3
      have s2 := heap_setCell_same _ w.heap.size 1 _ 76 v s1
      have kk : Keep (fun k => k = r) w3 ((w3.setCell ⟨w.heap.size, 0, none⟩ u).setCell ⟨w.heap.size, 1, none⟩ v) := ((Keep.refl _ w3).setCell hne u).setCell hne v
      refine ⟨s2, R3.keep kk rfl, ?_⟩
      have k0 := HK2.out.trans (Keep.all B3)
      exact ⟨k0.os, k0.tape, k0.output, by simp [World.setCell]; exact k0.size, fun j hj hlj => by
        rw [show ((w3.setCell ⟨w.heap.size, 0, none⟩ u).setCell ⟨w.heap.size, 1, none⟩ v).heap[j]? = w3.heap[j]? from (((Keep.refl (fun k => k ≠ w.heap.size) w3).setCell (fun h => h rfl) u).setCell (fun h => h rfl) v).block j (by omega) (Nat.lt_of_lt_of_le hlj k0.size)]
        exact k0.block j hj hlj⟩
    clear R3 B3 b3 HB2 HR2 HK2 C3 lt2
    go_wp2
    obtain ⟨g1, g2, g3⟩ := FIN.out (.complex .f64 P N) (.string ⟨#[]⟩)
    exact bodyPost_ret (v := .agg #[.complex .f64 P N, .string ⟨#[]⟩]) (results_cell_row rfl _ _ _ _ _ _ _ rfl g1 Try.underlying76 rfl (by kernel_rfl)) rfl ⟨rfl, g2, g3⟩
end Go.Proofs.Ytekeaoolodmdaaa
