import Derived.Test.YtnmjcpoobabjgaaGreatDoorO8m
import Derived.Test.YtnmjcpoobabjgaaGreatDoorFfm
import Derived.Deep.QuietTactic
import Derived.BigQuiet
import Derived.Lib.Strings
import Derived.Test.YtnmjcpoobabjgaaGreatDoorV7m
import Derived.Test.YtnmjcpoobabjgaaGreatDoorPbm
import Derived.Lib.Builder
import Derived.Laws.Externs
import Derived.WalkLawsBesides
set_option linter.unusedVariables false
set_option linter.unusedSimpArgs false
/- A piece read. -/
namespace Go.Proofs.YtnmjcpoobabjgaaGreatDoor
set_option maxRecDepth 100000
open Go.RowKit
attribute [local go_sem] run_store_complex
theorem num_small (m : Int) (h0 : 0 ≤ m) (d : List UInt8) (p : Nat) (e : Int) : (rNum m d p e).1 ≤ 1099511627775 := by
  by_cases c : e = 0
  · subst c; exact (num_value m d p h0).2
  · rw [num_err c]; simp
theorem rpz_smallp (m1 m2 : Int) (h1 : 0 ≤ m1) (h2 : 0 ≤ m2) (d : List UInt8) (p : Nat) (e : Int) : small (rpz m1 m2 d p e).1 := by
  have a := num_small m1 h1 d p e
  unfold rpz small
  split
  · exact ⟨Nat.zero_le _, Nat.zero_le _⟩
  · exact ⟨num_small m2 h2 _ _ _, by show (rNum m1 d p e).1 / 2 ≤ _; omega⟩
set_option maxHeartbeats 1000000 in
theorem readpiece_any {w : World} {r : Nat} {d : List UInt8} {p : Nat} {e : Int} (h : Rd w r d p e) (hp : p ≤ d.length) (hl : d.length ≤ 281474976710656) :
    Calls Tryz.prog 134 #[.pointer (some ⟨r, 0, none⟩)] w fun v w' => v = .returned (pv (rpz big big d p e).1) ∧ Rd w' r d (rpz big big d p e).2.1 (rpz big big d p e).2.2 ∧ Keep (fun k => k ≠ r) w w' := by
  have hr := h.lt
  have C1 : Hid (∀ W, Rd W r d p e → Calls Tryz.prog 61 #[.pointer (some ⟨r, 0, none⟩), .int .i64 1099511627775] W fun v w' => v = .returned (.int .i64 (rNum big d p e).1) ∧ Rd w' r d (rNum big d p e).2.1 (rNum big d p e).2.2 ∧ Keep (fun k => k ≠ r) W w') := fun W hW => rnum_any big hW hp hl
  have hp1 := rNum_le big d p e hp
  have hk := num_small big (by decide) d p e
  have R : rpz big big d p e = if (rNum big d p e).1 % 2 = 0 then (⟨0, 0, (rRaw ((rNum big d p e).1 / 2 : Nat) d (rNum big d p e).2.1 (rNum big d p e).2.2).1⟩, (rRaw ((rNum big d p e).1 / 2 : Nat) d (rNum big d p e).2.1 (rNum big d p e).2.2).2)
      else (⟨(rNum big d (rNum big d p e).2.1 (rNum big d p e).2.2).1, (rNum big d p e).1 / 2, []⟩, (rNum big d (rNum big d p e).2.1 (rNum big d p e).2.2).2) := rfl
  rw [R]
  obtain ⟨k, p1, e1, hA⟩ : ∃ k p1 e1, rNum big d p e = (k, p1, e1) := ⟨_, _, _, rfl⟩
  rw [hA] at C1 hp1 hk ⊢
  clear hA R
  dsimp only at C1 hp1 hk ⊢
  have w5 : IntKind.i64.wrap ((k : Int).tdiv 2) = ((k / 2 : Nat) : Int) := by
    rw [Int.tdiv_eq_ediv_of_nonneg (by omega)]
    rw [show (k : Int) / 2 = ((k / 2 : Nat) : Int) by omega]
    exact IntWalk.i64_in _ (by omega)
  have H0 : Rd (w.alloc (.cells #[.complex .f64 0 0, .string ⟨#[]⟩] 189)) r d p e := h.keep ((Keep.refl (fun _ => True) w).alloc _) trivial
  have HH := Lib.hid H0
  have HLT := Lib.hid hr
  by_cases c : k % 2 = 0
  · rw [if_pos c]
    have C2 : Hid (∀ x : Int, x = ((k / 2 : Nat) : Int) → ∀ W, Rd W r d p1 e1 → Calls Tryz.prog 60 #[.pointer (some ⟨r, 0, none⟩), .int .i64 x] W fun v w' => v = .returned (.string (bs (rRaw (k / 2 : Nat) d p1 e1).1)) ∧ Rd w' r d (rRaw (k / 2 : Nat) d p1 e1).2.1 (rRaw (k / 2 : Nat) d p1 e1).2.2 ∧ Keep (fun k => k ≠ r) W w') := fun x hx W hW => by
      subst hx
      exact rraw_any ((k / 2 : Nat) : Int) hW hp1 hl
    have w6 : (k : Int).tmod 2 = 0 := by rw [Int.tmod_eq_emod_of_nonneg (by omega)]; omega
    generalize rRaw ((k / 2 : Nat) : Int) d p1 e1 = A at *
    have hpv : pv ⟨0, 0, A.1⟩ = .agg #[.complex .f64 0 0, .string (bs A.1)] := by
      show Value.agg #[.complex .f64 (FB 0) (FB 0), _] = _
      rw [FB_0]
    rw [hpv]
    generalize bs A.1 = sb at *
    generalize hq : k / 2 = q at *
    clear hpv h H0 hr hp hl hp1
    go_enter Tryz.func134, Tryz.ntmps134
    go_wp2_with fail
    refine (C1.out _ HH.out).mono ?_
    rintro v w1 ⟨rfl, R1, K1⟩
    have HR1 := Lib.hid R1
    have HK1 := Lib.hid (((Keep.refl (fun k => k ≠ r) w).alloc (.cells #[.complex .f64 0 0, .string ⟨#[]⟩] 189)).trans K1)
    have b1 : w1.heap[w.heap.size]? = some (.cells #[.complex .f64 0 0, .string ⟨#[]⟩] 189 (0, 0)) := K1.at (by have := HLT.out; omega) (heap_alloc_new _ _)
    have HB1 := Lib.hid b1
    clear R1 K1 C1 HH b1
    go_wp2_with fail
    refine (C2.out _ (by omega) _ HR1.out).mono ?_
    rintro v w2 ⟨rfl, R2, K2⟩
    have b2 := K2.at (by have := HLT.out; omega) HB1.out
    have c0 := cell_of_row w2 w.heap.size 0 _ _ _ b2
    have c1 := cell_of_row w2 w.heap.size 1 _ _ _ b2
    have f0 := frozen_of_row w2 w.heap.size 0 _ _ b2
    have f1 := frozen_of_row w2 w.heap.size 1 _ _ b2
    have hne : w.heap.size ≠ r := by have := HLT.out; omega
    have FIN : Hid (∀ (u v : Value), ((w2.setCell ⟨w.heap.size, 0, none⟩ u).setCell ⟨w.heap.size, 1, none⟩ v).heap[w.heap.size]? = some (.cells #[u, v] 189 (0, 0)) ∧ Rd ((w2.setCell ⟨w.heap.size, 0, none⟩ u).setCell ⟨w.heap.size, 1, none⟩ v) r d A.2.1 A.2.2 ∧ Keep (fun k => k ≠ r) w ((w2.setCell ⟨w.heap.size, 0, none⟩ u).setCell ⟨w.heap.size, 1, none⟩ v)) := fun u v => by
      have s1 := heap_setCell_same w2 w.heap.size 0 _ 189 u b2
      have s2 := heap_setCell_same _ w.heap.size 1 _ 189 v s1
      have kk : Keep (fun k => k = r) w2 ((w2.setCell ⟨w.heap.size, 0, none⟩ u).setCell ⟨w.heap.size, 1, none⟩ v) := ((Keep.refl _ w2).setCell hne u).setCell hne v
      refine ⟨s2, R2.keep kk rfl, ?_⟩
      have k0 := HK1.out.trans K2
      exact ⟨k0.os, k0.tape, k0.output, by simp [World.setCell]; exact k0.size, fun j hj hlj => by
        rw [show ((w2.setCell ⟨w.heap.size, 0, none⟩ u).setCell ⟨w.heap.size, 1, none⟩ v).heap[j]? = w2.heap[j]? from (((Keep.refl (fun k => k ≠ w.heap.size) w2).setCell (fun h => h rfl) u).setCell (fun h => h rfl) v).block j (by omega) (Nat.lt_of_lt_of_le hlj k0.size)]
        exact k0.block j hj hlj⟩
    clear R2 K2 b2 HB1 HR1 HK1 C2
    go_wp2
    obtain ⟨g1, g2, g3⟩ := FIN.out (.complex .f64 0 0) (.string sb)
    exact bodyPost_ret (v := .agg #[.complex .f64 0 0, .string sb]) (results_cell_row rfl _ _ _ _ _ _ _ rfl g1 Tryz.underlying189 rfl (by kernel_rfl)) rfl ⟨rfl, g2, g3⟩
  · rw [if_neg c]
    have C2 : Hid (∀ W, Rd W r d p1 e1 → Calls Tryz.prog 61 #[.pointer (some ⟨r, 0, none⟩), .int .i64 1099511627775] W fun v w' => v = .returned (.int .i64 (rNum big d p1 e1).1) ∧ Rd w' r d (rNum big d p1 e1).2.1 (rNum big d p1 e1).2.2 ∧ Keep (fun k => k ≠ r) W w') := fun W hW => rnum_any big hW hp1 hl
    have w6 : ¬ (k : Int).tmod 2 = 0 := by rw [Int.tmod_eq_emod_of_nonneg (by omega)]; omega
    generalize rNum big d p1 e1 = A at *
    have C3 : Hid (∀ x : Int, x = ((k / 2 : Nat) : Int) → ∀ W, Calls Tryz.prog 144 #[.int .i64 (A.1 : Int), .int .i64 x] W fun e w' => e = .returned (.agg #[.complex .f64 (FB (A.1 : Int)) (FB ((k / 2 : Nat) : Int)), .string ⟨#[]⟩]) ∧ Below W.heap.size W w') := fun x hx W => by
      subst hx
      exact copyof_any A.1 (k / 2) W
    have hpv : pv ⟨A.1, k / 2, []⟩ = .agg #[.complex .f64 (FB (A.1 : Int)) (FB ((k / 2 : Nat) : Int)), .string ⟨#[]⟩] := rfl
    rw [hpv]
    generalize FB (A.1 : Int) = P at *
    generalize FB ((k / 2 : Nat) : Int) = N at *
    generalize hq : k / 2 = q at *
    clear hpv h H0 hr hp hl hp1
    go_enter Tryz.func134, Tryz.ntmps134
    go_wp2_with fail
    refine (C1.out _ HH.out).mono ?_
    rintro v w1 ⟨rfl, R1, K1⟩
    have HR1 := Lib.hid R1
    have HK1 := Lib.hid (((Keep.refl (fun k => k ≠ r) w).alloc (.cells #[.complex .f64 0 0, .string ⟨#[]⟩] 189)).trans K1)
    have b1 : w1.heap[w.heap.size]? = some (.cells #[.complex .f64 0 0, .string ⟨#[]⟩] 189 (0, 0)) := K1.at (by have := HLT.out; omega) (heap_alloc_new _ _)
    have HB1 := Lib.hid b1
    clear R1 K1 C1 HH b1
    go_wp2_with fail
    refine (C2.out _ HR1.out).mono ?_
    rintro v w2 ⟨rfl, R2, K2⟩
    have b2 := K2.at (by have := HLT.out; omega) HB1.out
    have HR2 := Lib.hid R2
    have HK2 := Lib.hid (HK1.out.trans K2)
    have HB2 := Lib.hid b2
    clear R2 K2 b2 HB1 HR1 HK1 C2
    go_wp2_with fail
    refine (C3.out _ (by omega) _).mono ?_
    rintro v w3 ⟨rfl, B3⟩
    have lt2 := lt_of_block HB2.out
    have b3 : w3.heap[w.heap.size]? = some (.cells #[.complex .f64 0 0, .string ⟨#[]⟩] 189 (0, 0)) := by rw [B3.block _ lt2]; exact HB2.out
    have R3 : Rd w3 r d A.2.1 A.2.2 := HR2.out.keep (Keep.all (K := fun _ => True) B3) trivial
    have c0 := cell_of_row w3 w.heap.size 0 _ _ _ b3
    have c1 := cell_of_row w3 w.heap.size 1 _ _ _ b3
    have f0 := frozen_of_row w3 w.heap.size 0 _ _ b3
    have f1 := frozen_of_row w3 w.heap.size 1 _ _ b3
    have hne : w.heap.size ≠ r := by have := HLT.out; omega
    have FIN : Hid (∀ (u v : Value), ((w3.setCell ⟨w.heap.size, 0, none⟩ u).setCell ⟨w.heap.size, 1, none⟩ v).heap[w.heap.size]? = some (.cells #[u, v] 189 (0, 0)) ∧ Rd ((w3.setCell ⟨w.heap.size, 0, none⟩ u).setCell ⟨w.heap.size, 1, none⟩ v) r d A.2.1 A.2.2 ∧ Keep (fun k => k ≠ r) w ((w3.setCell ⟨w.heap.size, 0, none⟩ u).setCell ⟨w.heap.size, 1, none⟩ v)) := fun u v => by
      have s1 := heap_setCell_same w3 w.heap.size 0 _ 189 u b3
      have s2 := heap_setCell_same _ w.heap.size 1 _ 189 v s1
      have kk : Keep (fun k => k = r) w3 ((w3.setCell ⟨w.heap.size, 0, none⟩ u).setCell ⟨w.heap.size, 1, none⟩ v) := ((Keep.refl _ w3).setCell hne u).setCell hne v
      refine ⟨s2, R3.keep kk rfl, ?_⟩
      have k0 := HK2.out.trans (Keep.all B3)
      exact ⟨k0.os, k0.tape, k0.output, by simp [World.setCell]; exact k0.size, fun j hj hlj => by
        rw [show ((w3.setCell ⟨w.heap.size, 0, none⟩ u).setCell ⟨w.heap.size, 1, none⟩ v).heap[j]? = w3.heap[j]? from (((Keep.refl (fun k => k ≠ w.heap.size) w3).setCell (fun h => h rfl) u).setCell (fun h => h rfl) v).block j (by omega) (Nat.lt_of_lt_of_le hlj k0.size)]
        exact k0.block j hj hlj⟩
    clear R3 B3 b3 HB2 HR2 HK2 C3 lt2
    go_wp2
    obtain ⟨g1, g2, g3⟩ := FIN.out (.complex .f64 P N) (.string ⟨#[]⟩)
    exact bodyPost_ret (v := .agg #[.complex .f64 P N, .string ⟨#[]⟩]) (results_cell_row rfl _ _ _ _ _ _ _ rfl g1 Tryz.underlying189 rfl (by kernel_rfl)) rfl ⟨rfl, g2, g3⟩
end Go.Proofs.YtnmjcpoobabjgaaGreatDoor
/- Spans, sizes; numbers held against bounds. -/
namespace Go.Proofs.YtnmjcpoobabjgaaGreatDoor
set_option maxRecDepth 100000
open Go.RowKit
theorem tInt : Tryz.prog.underlying 3 = some (.int .i64) := by kernel_rfl
theorem tF64 : Tryz.prog.underlying 190 = some (.float .f64) := by kernel_rfl
theorem cv_int (n : Int) (hn : n.natAbs < 9007199254740992) (w : World) : (convert 190 3 (.float .f64 (FB n))).run Tryz.prog w = .ok (.int .i64 n) w :=
  run_convert_float_int w 190 3 .f64 .i64 (FB n) n (by rw [tF64]; rfl) tInt (toInt_FB n hn)
set_option maxHeartbeats 400000 in
theorem span_any (x : Pz) (w : World) (hs : small x) : Calls Tryz.prog 147 #[pv x] w fun e w' => e = .returned (.tuple #[.int .i64 (x.p : Int), .int .i64 (x.n : Int)]) ∧ Below w.heap.size w w' := by
  have c1 := cv_int (x.p : Int) (by have := hs.1; omega)
  have c2 := cv_int (x.n : Int) (by have := hs.2; omega)
  unfold pv cpv
  generalize FB (x.p : Int) = a at *
  generalize FB (x.n : Int) = b at *
  clear hs
  go_enter Tryz.func147, Tryz.ntmps147
  go_wp2
  go_quiet (fail)
  go_wp2
  go_ret2
  exact ⟨rfl, ((Below.refl _ _).alloc (Nat.le_refl _) _).trans ⟨rfl, rfl, rfl, Nat.le_refl _, fun _ _ => rfl⟩⟩
set_option maxHeartbeats 400000 in
theorem size_any (x : Pz) (w : World) (hs : small x) : Calls Tryz.prog 136 #[pv x] w fun e w' => e = .returned (.int .i64 (sz x : Int)) ∧ Below w.heap.size w w' := by
  have C1 : Hid (∀ W, Calls Tryz.prog 145 #[pv x] W fun e w' => e = .returned (.bool (decide (¬ x.raw))) ∧ Below W.heap.size W w') := fun W => iscopy_any x W hs
  have C2 : Hid (∀ W, Calls Tryz.prog 147 #[pv x] W fun e w' => e = .returned (.tuple #[.int .i64 (x.p : Int), .int .i64 (x.n : Int)]) ∧ Below W.heap.size W w') := fun W => span_any x W hs
  have hz := bs_size x.t
  unfold sz
  by_cases c : x.raw
  · rw [if_pos c, ← hz]
    rw [decide_eq_false (show ¬ ¬ x.raw from fun h => h c)] at C1
    unfold pv at C1 C2 ⊢
    generalize bs x.t = sb at *
    generalize cpv x = cv at *
    clear hs c hz
    go_enter Tryz.func136, Tryz.ntmps136
    go_wp2_with fail
    refine (C1.out _).mono ?_
    rintro e w1 ⟨rfl, B1⟩
    have L1 := ((Below.refl w.heap.size w).alloc (Nat.le_refl _) (.cells #[cv, .string sb] 189)).trans (B1.mono (by simp))
    have c1 : w1.cell? ⟨w.heap.size, 1, none⟩ = some (.string sb) := by
      rw [B1.cell (by simp)]; exact cell_of_row _ _ _ _ _ _ (heap_alloc_new _ _)
    clear B1 C1
    go_wp2
    go_ret
    exact ⟨rfl, L1⟩
  · rw [if_neg c]
    rw [decide_eq_true c] at C1
    unfold pv at C1 C2 ⊢
    generalize bs x.t = sb at *
    generalize cpv x = cv at *
    clear hs c hz
    go_enter Tryz.func136, Tryz.ntmps136
    go_wp2_with fail
    refine (C1.out _).mono ?_
    rintro e w1 ⟨rfl, B1⟩
    have L1 := ((Below.refl w.heap.size w).alloc (Nat.le_refl _) (.cells #[cv, .string sb] 189)).trans (B1.mono (by simp))
    have c0 : w1.cell? ⟨w.heap.size, 0, none⟩ = some cv := by
      rw [B1.cell (by simp)]; exact cell_of_row _ _ _ _ _ _ (heap_alloc_new _ _)
    have c1 : w1.cell? ⟨w.heap.size, 1, none⟩ = some (.string sb) := by
      rw [B1.cell (by simp)]; exact cell_of_row _ _ _ _ _ _ (heap_alloc_new _ _)
    clear B1 C1
    go_wp2_with fail
    refine (C2.out _).mono ?_
    rintro e w2 ⟨rfl, B2⟩
    have L2 := L1.trans (B2.mono L1.size)
    clear B2
    go_wp2
    go_ret
    exact ⟨rfl, L2⟩
theorem getLit0 (v : Value) (h : (#[v] : Array Value).size = 1) (q : 0 < 1) : (#[v] : Array Value).getLit 0 h q = v := rfl
theorem integral_of (x : Nat) (s : Bool) (m : Nat) (e : Int) (h : FloatKind.f64.decode x = .number s m e) : Extern.MathFloor.toIntegral "math.archTrunc" .zero #[.float .f64 x] = pure (.float .f64 (FloatKind.f64.encode ((Ieee.Datum.number s m e).integral .zero))) := by
  delta Extern.MathFloor.toIntegral
  delta Extern.MathFloor.toIntegral.match_2
  dsimp only
  rw [dif_pos (by rfl), getLit0]
  delta Extern.MathFloor.toIntegral._sparseCasesOn_2 Extern.MathFloor.toIntegral._sparseCasesOn_3
  dsimp only
  rw [h]
theorem arch_trunc (n : Int) (hn : n.natAbs < 9007199254740992) (w : World) : (callFunc 154 #[.float .f64 (FB n)]).run Tryz.prog w = .ok (.value (.float .f64 (FB n))) w := by
  rw [run_callFunc_extern Tryz.func154 (by kernel_rfl) (by kernel_rfl) (by kernel_rfl) (e := Extern.MathFloor.toIntegral "math.archTrunc" .zero) (by kernel_rfl)]
  have h := integral_read n hn .zero
  obtain ⟨k, hk⟩ := FB_read n hn
  rw [hk] at h
  rw [integral_of _ _ _ _ hk, h]
  rfl
theorem trunc_any (n : Int) (hn : n.natAbs < 9007199254740992) (w : World) : Calls Tryz.prog 152 #[.float .f64 (FB n)] w fun e w' => e = .returned (.float .f64 (FB n)) ∧ w = w' := by
  have h1 := fun w => arch_trunc n hn w
  generalize FB n = a at *
  clear hn
  go_enter Tryz.func152, Tryz.ntmps152
  go_wp2
  go_ret
  exact ⟨rfl, rfl⟩
theorem ord_lt {a b : Int} (h : a < b) (ha : a.natAbs < 9007199254740992) (hb : b.natAbs < 9007199254740992) : FloatKind.f64.format.order (FB a) (FB b) = some .lt := by
  refine (order_FB a b ha hb).trans (congrArg some ?_)
  simp [compare, compareOfLessAndEq, h]
theorem ord_eq {a b : Int} (h : a = b) (ha : a.natAbs < 9007199254740992) : FloatKind.f64.format.order (FB a) (FB b) = some .eq := by
  subst h
  refine (order_FB a a ha ha).trans (congrArg some ?_)
  simp [compare, compareOfLessAndEq]
theorem ord_gt {a b : Int} (h : b < a) (ha : a.natAbs < 9007199254740992) (hb : b.natAbs < 9007199254740992) : FloatKind.f64.format.order (FB a) (FB b) = some .gt := by
  refine (order_FB a b ha hb).trans (congrArg some ?_)
  have h1 : ¬ (a < b) := by omega
  have h2 : ¬ (a = b) := by omega
  simp [compare, compareOfLessAndEq, h1, h2]
theorem ord_ge {a b : Int} (h : b ≤ a) (ha : a.natAbs < 9007199254740992) (hb : b.natAbs < 9007199254740992) : FloatKind.f64.format.order (FB a) (FB b) = some .gt ∨ FloatKind.f64.format.order (FB a) (FB b) = some .eq := by
  by_cases c : a = b
  · exact Or.inr (ord_eq c ha)
  · exact Or.inl (ord_gt (by omega) ha hb)
theorem ord_le {a b : Int} (h : a ≤ b) (ha : a.natAbs < 9007199254740992) (hb : b.natAbs < 9007199254740992) : FloatKind.f64.format.order (FB a) (FB b) = some .lt ∨ FloatKind.f64.format.order (FB a) (FB b) = some .eq := by
  by_cases c : a = b
  · exact Or.inr (ord_eq c ha)
  · exact Or.inl (ord_lt (by omega) ha hb)
set_option maxHeartbeats 1000000 in
theorem within_any (v l m : Int) (w : World) (hv : v.natAbs < 9007199254740992) (hl : l.natAbs < 9007199254740992) (hm : m.natAbs < 9007199254740992) :
    Calls Tryz.prog 146 #[.float .f64 (FB v), .float .f64 (FB l), .float .f64 (FB m)] w fun e w' => e = .returned (.bool (decide (l ≤ v ∧ v ≤ m))) ∧ w = w' := by
  have C := trunc_any v hv w
  have o3 := ord_eq (rfl : v = v) hv
  by_cases c1 : l ≤ v
  · by_cases c2 : v ≤ m
    · rw [decide_eq_true ⟨c1, c2⟩]
      have h1 := ord_ge c1 hv hl
      have h2 := ord_le c2 hv hm
      clear c1 c2 hv hl hm
      generalize FB v = V at *
      generalize FB l = L at *
      generalize FB m = M at *
      rcases h1 with o1 | o1 <;> rcases h2 with o2 | o2
      all_goals
        go_enter Tryz.func146, Tryz.ntmps146
        go_wp2_with fail
        refine C.mono ?_
        rintro e w1 ⟨rfl, rfl⟩
        go_wp2
        go_ret
        exact ⟨rfl, rfl⟩
    · rw [decide_eq_false (fun h => c2 h.2)]
      have h1 := ord_ge c1 hv hl
      have o2 := ord_gt (show m < v by omega) hv hm
      clear c1 c2 hv hl hm C o3
      generalize FB v = V at *
      generalize FB l = L at *
      generalize FB m = M at *
      rcases h1 with o1 | o1
      all_goals
        go_enter Tryz.func146, Tryz.ntmps146
        go_wp2
        go_ret
        exact ⟨rfl, rfl⟩
  · rw [decide_eq_false (fun h => c1 h.1)]
    have o1 := ord_lt (show v < l by omega) hv hl
    clear c1 hv hl hm C o3
    generalize FB v = V at *
    generalize FB l = L at *
    generalize FB m = M at *
    go_enter Tryz.func146, Tryz.ntmps146
    go_wp2
    go_ret
    exact ⟨rfl, rfl⟩
end Go.Proofs.YtnmjcpoobabjgaaGreatDoor
/- Which pieces are right, as the program tells it. -/
namespace Go.Proofs.YtnmjcpoobabjgaaGreatDoor
set_option maxRecDepth 100000
open Go.RowKit
theorem FB_1 : FB 1 = 4607182418800017408 := by
  have h : FB 1 = Ieee.double.word false (rung 1) := FB_word 1 (by decide)
  rw [h]; decide +kernel
theorem FB_4099 : FB 4099 = 4661228912863346688 := by
  have h : FB 4099 = Ieee.double.word false (rung 4099) := FB_word 4099 (by decide)
  rw [h]; decide +kernel
theorem sub_B (b n : Nat) (hb : b ≤ 4099) (hn : n ≤ 1099511627775) (w : World) : (binOp .sub 190 (.float .f64 (FB (b : Int))) (.float .f64 (FB (n : Int)))).run Tryz.prog w = .ok (.float .f64 (FB ((b : Int) - n))) w :=
  run_float_arith w .sub 190 .f64 _ _ _ (sub_FB b n (by omega) (by omega) (by omega) (by omega))
theorem bs_nil (l : List UInt8) : l = [] ↔ bs l = ⟨#[]⟩ := ⟨fun h => by rw [h]; rfl, fun h => bs_inj (h.trans rfl)⟩
theorem below_drewN' {B : Nat} {a w : World} (h : Below B a w) (n : Nat) : Below B a (w.drewN n) := h.trans ⟨rfl, rfl, rfl, Nat.le_refl _, fun _ _ => rfl⟩
set_option maxHeartbeats 1000000 in
theorem right_raw (b : Nat) (x : Pz) (w : World) (hs : small x) (c : x.raw) (h1 : 1 ≤ x.t.length) (h2 : x.t.length ≤ 4099) : Calls Tryz.prog 135 #[.int .i64 (b : Int), pv x] w fun e w' => e = .returned (.bool true) ∧ Below w.heap.size w w' := by
  have C1 : Hid (∀ W, Calls Tryz.prog 145 #[pv x] W fun e w' => e = .returned (.bool (decide (¬ x.raw))) ∧ Below W.heap.size W w') := fun W => iscopy_any x W hs
  rw [decide_eq_false (show ¬ ¬ x.raw from fun h => h c)] at C1
  have hz := bs_size x.t
  unfold pv at C1 ⊢
  generalize bs x.t = sb at *
  generalize cpv x = cv at *
  have L0 := Lib.hid ((Below.refl w.heap.size w).alloc (Nat.le_refl _) (.cells #[cv, .string sb] 189))
  have t1 : (1 : Int) ≤ (sb.size : Int) := by omega
  have t2 : (sb.size : Int) ≤ 4099 := by omega
  have hq : True := trivial
  clear hs c hz hq h1 h2
  go_enter Tryz.func135, Tryz.ntmps135
  go_wp2_with fail
  refine (C1.out _).mono ?_
  rintro e w1 ⟨rfl, B1⟩
  have c1 : w1.cell? ⟨w.heap.size, 1, none⟩ = some (.string sb) := by
    rw [B1.cell (by simp)]; exact cell_of_row _ _ _ _ _ _ (heap_alloc_new _ _)
  have L1 := Lib.hid (L0.out.trans (B1.mono (by simp)))
  clear B1 C1
  go_wp2
  go_ret
  exact ⟨rfl, L1.out⟩
set_option maxHeartbeats 1000000 in
theorem right_few (b : Nat) (x : Pz) (w : World) (hs : small x) (c : x.raw) (h1 : ¬ 1 ≤ x.t.length) : Calls Tryz.prog 135 #[.int .i64 (b : Int), pv x] w fun e w' => e = .returned (.bool false) ∧ Below w.heap.size w w' := by
  have C1 : Hid (∀ W, Calls Tryz.prog 145 #[pv x] W fun e w' => e = .returned (.bool (decide (¬ x.raw))) ∧ Below W.heap.size W w') := fun W => iscopy_any x W hs
  rw [decide_eq_false (show ¬ ¬ x.raw from fun h => h c)] at C1
  have hz := bs_size x.t
  unfold pv at C1 ⊢
  generalize bs x.t = sb at *
  generalize cpv x = cv at *
  have L0 := Lib.hid ((Below.refl w.heap.size w).alloc (Nat.le_refl _) (.cells #[cv, .string sb] 189))
  have t1 : (sb.size : Int) < 1 := by omega
  have hq : True := trivial
  clear hs c hz hq
  go_enter Tryz.func135, Tryz.ntmps135
  go_wp2_with fail
  refine (C1.out _).mono ?_
  rintro e w1 ⟨rfl, B1⟩
  have c1 : w1.cell? ⟨w.heap.size, 1, none⟩ = some (.string sb) := by
    rw [B1.cell (by simp)]; exact cell_of_row _ _ _ _ _ _ (heap_alloc_new _ _)
  have L1 := Lib.hid (L0.out.trans (B1.mono (by simp)))
  clear B1 C1
  go_wp2
  go_ret
  exact ⟨rfl, L1.out⟩
set_option maxHeartbeats 1000000 in
theorem right_many (b : Nat) (x : Pz) (w : World) (hs : small x) (c : x.raw) (h1 : 4099 < x.t.length) : Calls Tryz.prog 135 #[.int .i64 (b : Int), pv x] w fun e w' => e = .returned (.bool false) ∧ Below w.heap.size w w' := by
  have C1 : Hid (∀ W, Calls Tryz.prog 145 #[pv x] W fun e w' => e = .returned (.bool (decide (¬ x.raw))) ∧ Below W.heap.size W w') := fun W => iscopy_any x W hs
  rw [decide_eq_false (show ¬ ¬ x.raw from fun h => h c)] at C1
  have hz := bs_size x.t
  unfold pv at C1 ⊢
  generalize bs x.t = sb at *
  generalize cpv x = cv at *
  have L0 := Lib.hid ((Below.refl w.heap.size w).alloc (Nat.le_refl _) (.cells #[cv, .string sb] 189))
  have t1 : (1 : Int) ≤ (sb.size : Int) := by omega
  have t2 : decide ((sb.size : Int) ≤ 4099) = false := decide_eq_false (by omega)
  have hq : True := trivial
  clear hs c hz hq
  go_enter Tryz.func135, Tryz.ntmps135
  go_wp2_with fail
  refine (C1.out _).mono ?_
  rintro e w1 ⟨rfl, B1⟩
  have c1 : w1.cell? ⟨w.heap.size, 1, none⟩ = some (.string sb) := by
    rw [B1.cell (by simp)]; exact cell_of_row _ _ _ _ _ _ (heap_alloc_new _ _)
  have L1 := Lib.hid (L0.out.trans (B1.mono (by simp)))
  clear B1 C1
  go_wp2
  go_ret
  exact ⟨rfl, L1.out⟩
set_option maxHeartbeats 1000000 in
theorem right_copy (b : Nat) (x : Pz) (w : World) (hb : b ≤ 4099) (hs : small x) (c : ¬ x.raw) (h0 : x.t = []) (h1 : 1 ≤ x.n ∧ x.n ≤ 4099) (h2 : x.p + x.n ≤ b) : Calls Tryz.prog 135 #[.int .i64 (b : Int), pv x] w fun e w' => e = .returned (.bool true) ∧ Below w.heap.size w w' := by
  have C1 : Hid (∀ W, Calls Tryz.prog 145 #[pv x] W fun e w' => e = .returned (.bool (decide (¬ x.raw))) ∧ Below W.heap.size W w') := fun W => iscopy_any x W hs
  rw [decide_eq_true c] at C1
  unfold small at hs
  have W1 : Hid (∀ W, _) := Lib.hid (within_any (x.n : Int) 1 4099 (hv := by omega) (hl := by decide) (hm := by decide))
  have W2 : Hid (∀ W, _) := Lib.hid (within_any (x.p : Int) 0 ((b : Int) - x.n) (hv := by omega) (hl := by decide) (hm := by omega))
  rw [FB_1, FB_4099] at W1
  rw [FB_0] at W2
  have hsub := sub_B b x.n hb hs.2
  have hfb : floatOfInt .f64 (b : Int) = FB (b : Int) := rfl
  have ht := (bs_nil x.t).1 h0
  rw [decide_eq_true (by omega)] at W1
  rw [decide_eq_true (by omega)] at W2
  unfold pv cpv at C1 ⊢
  generalize FB (x.p : Int) = P at *
  generalize FB (x.n : Int) = N at *
  generalize FB (b : Int) = B at *
  generalize FB ((b : Int) - x.n) = D at *
  generalize bs x.t = sb at *
  subst ht
  clear h0 h1 h2 hs c hb
  have L0 := Lib.hid ((Below.refl w.heap.size w).alloc (Nat.le_refl _) (.cells #[.complex .f64 P N, .string ⟨#[]⟩] 189))
  go_enter Tryz.func135, Tryz.ntmps135
  go_wp2_with fail
  refine (C1.out _).mono ?_
  rintro e w1 ⟨rfl, B1⟩
  have c0 : w1.cell? ⟨w.heap.size, 0, none⟩ = some (.complex .f64 P N) := by
    rw [B1.cell (by simp)]; exact cell_of_row _ _ _ _ _ _ (heap_alloc_new _ _)
  have c1 : w1.cell? ⟨w.heap.size, 1, none⟩ = some (.string ⟨#[]⟩) := by
    rw [B1.cell (by simp)]; exact cell_of_row _ _ _ _ _ _ (heap_alloc_new _ _)
  have L1 := Lib.hid (L0.out.trans (B1.mono (by simp)))
  clear B1 C1 L0
  go_wp2
  go_quiet (fail)
  go_wp2_with fail
  refine (W1.out _).mono ?_
  rintro e w2 ⟨rfl, rfl⟩
  go_wp2_with fail
  refine (W2.out _).mono ?_
  rintro e w3 ⟨rfl, rfl⟩
  go_wp2
  go_ret
  exact ⟨rfl, below_drewN' L1.out _⟩
set_option maxHeartbeats 1000000 in
theorem right_text (b : Nat) (x : Pz) (w : World) (hb : b ≤ 4099) (hs : small x) (c : ¬ x.raw) (h0 : ¬ x.t = []) : Calls Tryz.prog 135 #[.int .i64 (b : Int), pv x] w fun e w' => e = .returned (.bool false) ∧ Below w.heap.size w w' := by
  have C1 : Hid (∀ W, Calls Tryz.prog 145 #[pv x] W fun e w' => e = .returned (.bool (decide (¬ x.raw))) ∧ Below W.heap.size W w') := fun W => iscopy_any x W hs
  rw [decide_eq_true c] at C1
  unfold small at hs
  have W1 : Hid (∀ W, _) := Lib.hid (within_any (x.n : Int) 1 4099 (hv := by omega) (hl := by decide) (hm := by decide))
  have W2 : Hid (∀ W, _) := Lib.hid (within_any (x.p : Int) 0 ((b : Int) - x.n) (hv := by omega) (hl := by decide) (hm := by omega))
  rw [FB_1, FB_4099] at W1
  rw [FB_0] at W2
  have hsub := sub_B b x.n hb hs.2
  have hfb : floatOfInt .f64 (b : Int) = FB (b : Int) := rfl
  have ht : ¬ (bs x.t).toList = [] := by rw [toList_bs]; exact h0
  unfold pv cpv at C1 ⊢
  generalize FB (x.p : Int) = P at *
  generalize FB (x.n : Int) = N at *
  generalize FB (b : Int) = B at *
  generalize FB ((b : Int) - x.n) = D at *
  generalize bs x.t = sb at *
  clear h0 hs c hb W1 W2 hsub hfb
  have L0 := Lib.hid ((Below.refl w.heap.size w).alloc (Nat.le_refl _) (.cells #[.complex .f64 P N, .string sb] 189))
  go_enter Tryz.func135, Tryz.ntmps135
  go_wp2_with fail
  refine (C1.out _).mono ?_
  rintro e w1 ⟨rfl, B1⟩
  have c0 : w1.cell? ⟨w.heap.size, 0, none⟩ = some (.complex .f64 P N) := by
    rw [B1.cell (by simp)]; exact cell_of_row _ _ _ _ _ _ (heap_alloc_new _ _)
  have c1 : w1.cell? ⟨w.heap.size, 1, none⟩ = some (.string sb) := by
    rw [B1.cell (by simp)]; exact cell_of_row _ _ _ _ _ _ (heap_alloc_new _ _)
  have L1 := Lib.hid (L0.out.trans (B1.mono (by simp)))
  clear B1 C1 L0
  go_wp2
  go_quiet (fail)
  go_wp2
  go_ret
  exact ⟨rfl, below_drewN' L1.out _⟩
set_option maxHeartbeats 1000000 in
theorem right_len (b : Nat) (x : Pz) (w : World) (hb : b ≤ 4099) (hs : small x) (c : ¬ x.raw) (h0 : x.t = []) (h1 : ¬ (1 ≤ x.n ∧ x.n ≤ 4099)) : Calls Tryz.prog 135 #[.int .i64 (b : Int), pv x] w fun e w' => e = .returned (.bool false) ∧ Below w.heap.size w w' := by
  have C1 : Hid (∀ W, Calls Tryz.prog 145 #[pv x] W fun e w' => e = .returned (.bool (decide (¬ x.raw))) ∧ Below W.heap.size W w') := fun W => iscopy_any x W hs
  rw [decide_eq_true c] at C1
  unfold small at hs
  have W1 : Hid (∀ W, _) := Lib.hid (within_any (x.n : Int) 1 4099 (hv := by omega) (hl := by decide) (hm := by decide))
  have W2 : Hid (∀ W, _) := Lib.hid (within_any (x.p : Int) 0 ((b : Int) - x.n) (hv := by omega) (hl := by decide) (hm := by omega))
  rw [FB_1, FB_4099] at W1
  rw [FB_0] at W2
  have hsub := sub_B b x.n hb hs.2
  have hfb : floatOfInt .f64 (b : Int) = FB (b : Int) := rfl
  have ht := (bs_nil x.t).1 h0
  rw [decide_eq_false (by omega)] at W1
  unfold pv cpv at C1 ⊢
  generalize FB (x.p : Int) = P at *
  generalize FB (x.n : Int) = N at *
  generalize FB (b : Int) = B at *
  generalize FB ((b : Int) - x.n) = D at *
  generalize bs x.t = sb at *
  subst ht
  clear h0 h1 hs c hb W2 hsub hfb
  have L0 := Lib.hid ((Below.refl w.heap.size w).alloc (Nat.le_refl _) (.cells #[.complex .f64 P N, .string ⟨#[]⟩] 189))
  go_enter Tryz.func135, Tryz.ntmps135
  go_wp2_with fail
  refine (C1.out _).mono ?_
  rintro e w1 ⟨rfl, B1⟩
  have c0 : w1.cell? ⟨w.heap.size, 0, none⟩ = some (.complex .f64 P N) := by
    rw [B1.cell (by simp)]; exact cell_of_row _ _ _ _ _ _ (heap_alloc_new _ _)
  have c1 : w1.cell? ⟨w.heap.size, 1, none⟩ = some (.string ⟨#[]⟩) := by
    rw [B1.cell (by simp)]; exact cell_of_row _ _ _ _ _ _ (heap_alloc_new _ _)
  have L1 := Lib.hid (L0.out.trans (B1.mono (by simp)))
  clear B1 C1 L0
  go_wp2
  go_quiet (fail)
  go_wp2_with fail
  refine (W1.out _).mono ?_
  rintro e w2 ⟨rfl, rfl⟩
  go_wp2
  go_ret
  exact ⟨rfl, below_drewN' L1.out _⟩
set_option maxHeartbeats 1000000 in
theorem right_end (b : Nat) (x : Pz) (w : World) (hb : b ≤ 4099) (hs : small x) (c : ¬ x.raw) (h0 : x.t = []) (h1 : 1 ≤ x.n ∧ x.n ≤ 4099) (h2 : ¬ x.p + x.n ≤ b) : Calls Tryz.prog 135 #[.int .i64 (b : Int), pv x] w fun e w' => e = .returned (.bool false) ∧ Below w.heap.size w w' := by
  have C1 : Hid (∀ W, Calls Tryz.prog 145 #[pv x] W fun e w' => e = .returned (.bool (decide (¬ x.raw))) ∧ Below W.heap.size W w') := fun W => iscopy_any x W hs
  rw [decide_eq_true c] at C1
  unfold small at hs
  have W1 : Hid (∀ W, _) := Lib.hid (within_any (x.n : Int) 1 4099 (hv := by omega) (hl := by decide) (hm := by decide))
  have W2 : Hid (∀ W, _) := Lib.hid (within_any (x.p : Int) 0 ((b : Int) - x.n) (hv := by omega) (hl := by decide) (hm := by omega))
  rw [FB_1, FB_4099] at W1
  rw [FB_0] at W2
  have hsub := sub_B b x.n hb hs.2
  have hfb : floatOfInt .f64 (b : Int) = FB (b : Int) := rfl
  have ht := (bs_nil x.t).1 h0
  rw [decide_eq_true (by omega)] at W1
  rw [decide_eq_false (by omega)] at W2
  unfold pv cpv at C1 ⊢
  generalize FB (x.p : Int) = P at *
  generalize FB (x.n : Int) = N at *
  generalize FB (b : Int) = B at *
  generalize FB ((b : Int) - x.n) = D at *
  generalize bs x.t = sb at *
  subst ht
  clear h0 h1 h2 hs c hb
  have L0 := Lib.hid ((Below.refl w.heap.size w).alloc (Nat.le_refl _) (.cells #[.complex .f64 P N, .string ⟨#[]⟩] 189))
  go_enter Tryz.func135, Tryz.ntmps135
  go_wp2_with fail
  refine (C1.out _).mono ?_
  rintro e w1 ⟨rfl, B1⟩
  have c0 : w1.cell? ⟨w.heap.size, 0, none⟩ = some (.complex .f64 P N) := by
    rw [B1.cell (by simp)]; exact cell_of_row _ _ _ _ _ _ (heap_alloc_new _ _)
  have c1 : w1.cell? ⟨w.heap.size, 1, none⟩ = some (.string ⟨#[]⟩) := by
    rw [B1.cell (by simp)]; exact cell_of_row _ _ _ _ _ _ (heap_alloc_new _ _)
  have L1 := Lib.hid (L0.out.trans (B1.mono (by simp)))
  clear B1 C1 L0
  go_wp2
  go_quiet (fail)
  go_wp2_with fail
  refine (W1.out _).mono ?_
  rintro e w2 ⟨rfl, rfl⟩
  go_wp2_with fail
  refine (W2.out _).mono ?_
  rintro e w3 ⟨rfl, rfl⟩
  go_wp2
  go_ret
  exact ⟨rfl, below_drewN' L1.out _⟩
theorem dright_any (b : Nat) (x : Pz) (w : World) (hb : b ≤ 4099) (hs : small x) : Calls Tryz.prog 135 #[.int .i64 (b : Int), pv x] w fun e w' => e = .returned (.bool (decide (good b x))) ∧ Below w.heap.size w w' := by
  by_cases c : x.raw
  · have hg : good b x = (1 ≤ x.t.length ∧ x.t.length ≤ 4099) := by unfold good; rw [if_pos c]
    by_cases c1 : 1 ≤ x.t.length
    · by_cases c2 : x.t.length ≤ 4099
      · rw [decide_eq_true (by rw [hg]; exact ⟨c1, c2⟩)]; exact right_raw b x w hs c c1 c2
      · rw [decide_eq_false (by rw [hg]; exact fun h => c2 h.2)]; exact right_many b x w hs c (by omega)
    · rw [decide_eq_false (by rw [hg]; exact fun h => c1 h.1)]; exact right_few b x w hs c c1
  · have hg : good b x = (x.t = [] ∧ 1 ≤ x.n ∧ x.n ≤ 4099 ∧ x.p + x.n ≤ b) := by unfold good; rw [if_neg c]
    by_cases c0 : x.t = []
    · by_cases c1 : 1 ≤ x.n ∧ x.n ≤ 4099
      · by_cases c2 : x.p + x.n ≤ b
        · rw [decide_eq_true (by rw [hg]; exact ⟨c0, c1.1, c1.2, c2⟩)]; exact right_copy b x w hb hs c c0 c1 c2
        · rw [decide_eq_false (by rw [hg]; exact fun h => c2 h.2.2.2)]; exact right_end b x w hb hs c c0 c1 c2
      · rw [decide_eq_false (by rw [hg]; exact fun h => c1 ⟨h.2.1, h.2.2.1⟩)]; exact right_len b x w hb hs c c0 c1
    · rw [decide_eq_false (by rw [hg]; exact fun h => c0 h.1)]; exact right_text b x w hb hs c c0
end Go.Proofs.YtnmjcpoobabjgaaGreatDoor
/- How many bytes pieces have. -/
namespace Go.Proofs.YtnmjcpoobabjgaaGreatDoor
set_option maxRecDepth 100000
open Go.RowKit
attribute [local go_sem] run_store_complex
set_option maxHeartbeats 2000000 in
theorem length_any (b : Nat) (l : List Pz) (v : Value) (w : World) (hb : b ≤ 4099) (hR : RowZ w v l) (hg : ∀ x ∈ l, good b x) (hs : ∀ x ∈ l, small x) (hsz : szs l ≤ 4099) :
    Calls Tryz.prog 137 #[.int .i64 (b : Int), v] w fun e w' => e = .returned (.tuple #[.int .i64 (szs l : Int), .int .i64 0]) ∧ Below w.heap.size w w' := by
  obtain ⟨ad, cap, rfl, hc⟩ := hR.cells
  have C1 : Hid (∀ k, k < l.length → ∀ W, Calls Tryz.prog 135 #[.int .i64 (b : Int), .agg #[cpv (l.getD k zz), .string (bs (l.getD k zz).t)]] W fun e w' => e = .returned (.bool true) ∧ Below W.heap.size W w') := fun k hk W => by
    have := dright_any b (l.getD k zz) W hb (hs _ (getD_mem l zz k hk))
    rw [decide_eq_true (hg _ (getD_mem l zz k hk))] at this
    exact this
  have C2 : Hid (∀ k, k < l.length → ∀ W, Calls Tryz.prog 136 #[.agg #[cpv (l.getD k zz), .string (bs (l.getD k zz).t)]] W fun e w' => e = .returned (.int .i64 (sz (l.getD k zz) : Int)) ∧ Below W.heap.size W w') := fun k hk W => size_any (l.getD k zz) W (hs _ (getD_mem l zz k hk))
  have HC := Lib.hid hc
  have HS : Hid (∀ k, k < l.length → szs (l.take (k + 1)) = szs (l.take k) + sz (l.getD k zz)) := fun k hk => by rw [take_next l zz k hk, szs_snoc]
  have HM : Hid (∀ k, szs (l.take k) ≤ 4099) := fun k => Nat.le_trans (szs_take_le l k) hsz
  have HL : Hid (l.length ≤ 4099) := Nat.le_trans (szs_ge hg) hsz
  have t1 : ¬ (b : Int) < 0 := by omega
  have t2 : (b : Int) ≤ 4099 := by omega
  have e0 : szs (l.take l.length) = szs l := by rw [List.take_length]
  have HE := Lib.hid e0
  clear hc hg hs hsz hR hb e0
  go_enter Tryz.func137, Tryz.ntmps137
  go_wp2
  go_loopw [6, 17] (fun n i wr => ∃ k : Nat, k ≤ l.length ∧ i = .int .i64 (k : Int) ∧ n = .int .i64 (szs (l.take k) : Int) ∧ Hid (Below w.heap.size w wr)) (fun _ i _ => l.length - (intOf i).toNat)
  case atStart => exact ⟨0, Nat.zero_le _, rfl, rfl, Below.refl _ _⟩
  case round =>
    obtain ⟨k, hk, rfl, rfl, hL⟩ := hrel
    by_cases hlt : k < l.length
    · obtain ⟨g, o, rfl, hgl, h0, h1⟩ := HC.out k hlt
      have c0 : wr.cell? ⟨g, o + k * 2, none⟩ = some (cpv (l.getD k zz)) := by rw [hL.out.cell hgl]; exact h0
      have c1 : wr.cell? ⟨g, o + k * 2 + 1, none⟩ = some (.string (bs (l.getD k zz).t)) := by rw [hL.out.cell hgl]; exact h1
      have D1 : Hid (∀ W, _) := fun W => C1.out k hlt W
      have D2 : Hid (∀ W, _) := fun W => C2.out k hlt W
      have S1 := HS.out k hlt
      have M1 := HM.out (k + 1)
      have hl0 := HL.out
      have zk : (0 : Int) ≤ (k : Int) := by omega
      have yk : (k : Int) < (l.length : Int) := by omega
      unfold cpv at c0 D1 D2
      generalize FB ((l.getD k zz).p : Int) = P at *
      generalize FB ((l.getD k zz).n : Int) = N at *
      generalize bs (l.getD k zz).t = sb at *
      generalize sz (l.getD k zz) = z at *
      generalize hA : szs (l.take (k + 1)) = A at *
      generalize szs (l.take k) = A0 at *
      have w1 : IntKind.i64.wrap ((k : Int) + 1) = (k : Int) + 1 := IntWalk.i64_in _ (by omega)
      have w2 : IntKind.i64.wrap ((A0 : Int) + (z : Int)) = (A : Int) := by rw [S1]; exact IntWalk.i64_in _ (by omega)
      have HA := Lib.hid hA
      clear S1 M1 hA C1 C2 HS HM HC h0 h1 hl0 hk
      have HGL := Lib.hid hgl
      clear hgl
      have O : Hid (∀ (W : World), Below (wr.alloc (.cells #[.complex .f64 P N, .string sb] 189)).heap.size (wr.alloc (.cells #[.complex .f64 P N, .string sb] 189)) W → W.cell? ⟨wr.heap.size, 0, none⟩ = some (.complex .f64 P N) ∧ W.cell? ⟨wr.heap.size, 1, none⟩ = some (.string sb) ∧ Below w.heap.size w W) := fun W B => by
        refine ⟨?_, ?_, (hL.out.alloc hL.out.size _).trans (B.mono (by have := hL.out.size; simp; omega))⟩
        · rw [B.cell (by simp)]; exact cell_of_row _ _ _ _ _ _ (heap_alloc_new _ _)
        · rw [B.cell (by simp)]; exact cell_of_row _ _ _ _ _ _ (heap_alloc_new _ _)
      go_wp2_with fail
      refine (D1.out _).mono ?_
      rintro e w3 ⟨rfl, B3⟩
      obtain ⟨d0, d1, L3⟩ := O.out w3 B3
      have HL3 := Lib.hid L3
      clear B3 D1 c0 c1 O L3
      go_wp2_with fail
      refine (D2.out _).mono ?_
      rintro e w4 ⟨rfl, B4⟩
      have HL4 := Lib.hid (HL3.out.trans (B4.mono HL3.out.size))
      clear B4 D2 d0 d1
      go_wp2
      go_roundw
      case rel => exact ⟨k + 1, by omega, by go_num, by rw [HA.out], HL4⟩
      case measure => simp [intOf]; omega
    · have e : k = l.length := by omega
      subst e
      have M1 := HM.out l.length
      have e0 := HE.out
      rw [e0] at M1 ⊢
      have t3 : (szs l : Int) ≤ 4099 := by omega
      clear C1 C2 HS HM HC M1 e0
      go_wp2
      go_ret2
      exact ⟨rfl, hL.out⟩
end Go.Proofs.YtnmjcpoobabjgaaGreatDoor
/- What is written to a strings.Builder. -/
namespace Go.Proofs.YtnmjcpoobabjgaaGreatDoor
open Go.RowKit
theorem u94 : Tryz.prog.underlying 218 = some (.pointer 220) := by kernel_rfl
theorem uUp : Tryz.prog.underlying 226 = some .unsafePointer := by kernel_rfl
theorem szB : (Tryz.prog.info? 220).map (·.size) = some 2 := by kernel_rfl
theorem liesB : liesAt Tryz.prog Tryz.prog.depth 220 (2 / Tryz.prog.cellsOf 220) 0 220 1 = true := by kernel_rfl
set_option maxHeartbeats 1000000 in
set_option maxRecDepth 100000 in
theorem check_used (b : Nat) (w : World) (h0 : w.cell? ⟨b, 0, none⟩ = some (.pointer (some ⟨b, 0, none⟩))) :
    Calls Tryz.prog 153 #[.pointer (some ⟨b, 0, none⟩)] w fun e w' => e = .returned (.tuple #[]) ∧ w' = w := by
  obtain ⟨j, hj, _⟩ := Option.map_eq_some_iff.1 szB
  go_enter Tryz.func153, Tryz.ntmps153
  go_wp2
  rw [Lib.run_neq_ptr_same w _ u94 hj]
  go_wp2
  go_end0
  exact ⟨rfl, rfl⟩
set_option maxHeartbeats 1000000 in
set_option maxRecDepth 100000 in
theorem check_fresh (b : Nat) (w : World) (h0 : w.cell? ⟨b, 0, none⟩ = some (.pointer none)) (hsh : w.shape? b = some (220, 2)) (hfz : w.frozen? ⟨b, 0, none⟩ = false) :
    Calls Tryz.prog 153 #[.pointer (some ⟨b, 0, none⟩)] w fun e w' => e = .returned (.tuple #[]) ∧ w' = w.setCell ⟨b, 0, none⟩ (.pointer (some ⟨b, 0, none⟩)) := by
  obtain ⟨j, hj, hjs⟩ := Option.map_eq_some_iff.1 szB
  have r1 := Lib.run_to_unsafe (P := Tryz.prog) w ⟨b, 0, none⟩ u94 uUp hj (by rw [hjs]; decide) hsh (Nat.zero_lt_succ 1)
  have r3 := Lib.run_from_unsafe (P := Tryz.prog) w ⟨b, 0, none⟩ uUp u94 hj hsh liesB
  have r2 : ∀ x : Value, (callFunc 156 #[x]).run Tryz.prog w = .ok (.value x) w := fun x => by
    rw [run_callFunc_extern Tryz.func156 (by kernel_rfl) (by kernel_rfl) (by kernel_rfl) (e := Extern.AbiNoEscape.same) (by kernel_rfl), Lib.run_noEscape]
    rfl
  go_enter Tryz.func153, Tryz.ntmps153
  go_wp2
  go_end0
  exact ⟨rfl, rfl⟩
theorem check_any {B b : Nat} {l : List Value} {w : World} (h : Lib.IsBuilder 220 5 B b l w) :
    Calls Tryz.prog 153 #[.pointer (some ⟨b, 0, none⟩)] w fun e w' => e = .returned (.tuple #[]) ∧ Lib.BuilderAt 220 5 B b (.pointer (some ⟨b, 0, none⟩)) l w' ∧ Below B w w' := by
  rcases h with h | h
  · refine (check_fresh b w h.cell0 h.shape h.frozen0).mono ?_
    rintro e w' ⟨rfl, rfl⟩
    exact ⟨rfl, h.used _, (Below.refl B w).setCell (p := ⟨b, 0, none⟩) h.1 _⟩
  · refine (check_used b w h.cell0).mono ?_
    rintro e w' ⟨rfl, rfl⟩
    exact ⟨rfl, h, Below.refl B _⟩
set_option maxHeartbeats 1000000 in
set_option maxRecDepth 100000 in
/- bytes written behind those that are there -/
theorem bwrite_any {B b : Nat} {l s : List UInt8} {w : World} (h : Lib.IsBuilder 220 5 B b (cbs l) w) (hlen : l.length + s.length ≤ 140737488355328) (hBw : B ≤ w.heap.size) :
    Calls Tryz.prog 148 #[.pointer (some ⟨b, 0, none⟩), .string (bs s)] w fun e w' => e = .returned (.tuple #[.int .i64 (bs s).size, .nilIface]) ∧ Lib.IsBuilder 220 5 B b (cbs (l ++ s)) w' ∧ Below B w w' := by
  have C1 := check_any h
  obtain ⟨sb, hsb⟩ : ∃ sb, sb = bs s := ⟨_, rfl⟩
  have hz : sb.size = s.length := by rw [hsb, bs_size]
  have hc := strCells_bs s
  rw [← hsb] at hc ⊢
  go_enter Tryz.func148, Tryz.ntmps148
  go_wp2_with fail
  refine C1.mono ?_
  rintro e w1 ⟨rfl, h1, L1⟩
  obtain ⟨hB, v, hbk, hown, hne⟩ := h1
  have z1 := L1.size
  obtain ⟨v', w2, hr, ho, hg, hat⟩ := app_str_at w1 v l.length (cbs l) (by
    have := hown
    rw [cbs_length] at this
    exact ⟨this.1, this.2.imp id fun ⟨g, cap, cur, a, c, d⟩ => ⟨g, cap, cur, a, Nat.zero_le _, d⟩⟩) sb (by rw [hz]; exact hlen)
  obtain ⟨ad, cap, rfl⟩ := owns_shape ho
  have c0 : w1.cell? ⟨b, 0, none⟩ = some (.pointer (some ⟨b, 0, none⟩)) := by rw [Lib.cell_of_heap hbk]; rfl
  have c1 : w1.cell? ⟨b, 1, none⟩ = some v := by rw [Lib.cell_of_heap hbk]; rfl
  have hlt : b < w1.heap.size := lt_of_block hbk
  have hb2 : w2.heap[b]? = some (.cells #[.pointer (some ⟨b, 0, none⟩), v] 220 (0, 0)) := by
    rw [hg.block b hlt (fun e => hne e.symm)]
    exact hbk
  have hB2 : ∀ k, v.ownBlock = some k → B ≤ k := fun k hk => (hown.lt k hk).1
  have d0 : w2.cell? ⟨b, 0, none⟩ = some (.pointer (some ⟨b, 0, none⟩)) := by rw [Lib.cell_of_heap hb2]; rfl
  have d1 : w2.cell? ⟨b, 1, none⟩ = some v := by rw [Lib.cell_of_heap hb2]; rfl
  have f1 : w2.frozen? ⟨b, 1, none⟩ = false := Lib.frozen_of_heap hb2 1
  have L2 : Below B w1 w2 := (Below.refl B w1).grown hg (by omega) (fun k hk => hB2 k hk)
  have ho2 : w2.ownsRow B 5 1 (.slice ad (l.length + sb.size) cap) (cbs (l ++ s)).length (cbs (l ++ s)) := by
    rw [cbs_length, List.length_append, cbs_append, ← hc, ← hz]
    refine ⟨ho.1, ho.2.imp id fun ⟨g, cp, cur, a, c, d⟩ => ⟨g, cp, cur, a, ?_, d⟩⟩
    rcases hat with e | e
    · rw [a] at e
      exact hB2 g e.symm
    · rw [a] at e
      simp only [Value.ownBlock, Option.some.injEq] at e
      omega
  have E1 := Lib.hid (Lib.BuilderAt.put (T := 220) (e := 5) hB hb2 ho2 (by decide))
  have E2 := Lib.hid ((L1.trans L2).setCell (p := ⟨b, 1, none⟩) hB (.slice ad (l.length + sb.size) cap))
  clear hB hbk hown hne z1 ho hg hat hlt hb2 hB2 L2 ho2 L1 C1 h hc hz hsb hlen
  go_wp2_with (at_builtin; refine wpList_append_run rfl (.tmp 12) (.tmp 13) 63 9 rfl _ _ _ _ rfl rfl hr ?_)
  go_wp2
  go_ret2
  exact ⟨rfl, Or.inr E1.out, E2.out⟩
theorem bstring_any {B b : Nat} {l : List UInt8} {w : World} (h : Lib.IsBuilder 220 5 B b (cbs l) w) (hBw : B ≤ w.heap.size) :
    Calls Tryz.prog 149 #[.pointer (some ⟨b, 0, none⟩)] w fun e w' => e = .returned (.string (bs l)) ∧ Below B w w' := by
  have e : cbs l = Lib.byteCells l := by simp [Lib.byteCells, cbs]; intro b _; rfl
  rw [e] at h
  exact Builder_String_any B b l w h hBw
end Go.Proofs.YtnmjcpoobabjgaaGreatDoor
/- The text of pieces. -/
namespace Go.Proofs.YtnmjcpoobabjgaaGreatDoor
set_option maxRecDepth 100000
open Go.RowKit
attribute [local go_sem] run_store_complex
theorem tzs_take_len {b : Nat} {B : List UInt8} {l : List Pz} (h : ∀ x ∈ l, good b x) (hb : b = B.length) (k : Nat) : (tzs B (l.take k)).length = szs (l.take k) :=
  tzs_len (fun x hx => h x (List.mem_of_mem_take hx)) hb
theorem isb_all {T e B b : Nat} {xs : List Value} {w w' : World} (h : Lib.IsBuilder T e B b xs w) (hb : Below w.heap.size w w') : Lib.IsBuilder T e B b xs w' := by
  have key : ∀ p, Lib.BuilderAt T e B b p xs w → Lib.BuilderAt T e B b p xs w' := fun p ⟨h1, v, h2, h3, h4⟩ => ⟨h1, v, by rw [hb.block b (lt_of_block h2)]; exact h2, owns_all h3 hb, h4⟩
  exact h.imp (key _) (key _)
theorem slice_bs (B : List UInt8) (p n : Nat) : (bs B).extract p (p + n) = bs ((B.drop p).take n) := by rw [bs_extract, Nat.add_sub_cancel_left]
set_option maxHeartbeats 2000000 in
theorem join_any (B : List UInt8) (l : List Pz) (v : Value) (w : World) (hb : B.length ≤ 1000000) (hR : RowZ w v l) (hg : ∀ x ∈ l, good B.length x) (hs : ∀ x ∈ l, small x) (hsz : szs l ≤ 4099) :
    Calls Tryz.prog 138 #[.string (bs B), v] w fun e w' => e = .returned (.string (bs (tzs B l))) ∧ Below w.heap.size w w' := by
  obtain ⟨ad, cap, rfl, hc⟩ := hR.cells
  have C1 : Hid (∀ k, k < l.length → ∀ W, Calls Tryz.prog 145 #[.agg #[cpv (l.getD k zz), .string (bs (l.getD k zz).t)]] W fun e w' => e = .returned (.bool (decide (¬ (l.getD k zz).raw))) ∧ Below W.heap.size W w') := fun k hk W => iscopy_any (l.getD k zz) W (hs _ (getD_mem l zz k hk))
  have C2 : Hid (∀ k, k < l.length → ∀ W, Calls Tryz.prog 147 #[.agg #[cpv (l.getD k zz), .string (bs (l.getD k zz).t)]] W fun e w' => e = .returned (.tuple #[.int .i64 ((l.getD k zz).p : Int), .int .i64 ((l.getD k zz).n : Int)]) ∧ Below W.heap.size W w') := fun k hk W => span_any (l.getD k zz) W (hs _ (getD_mem l zz k hk))
  have HC := Lib.hid hc
  have HG : Hid (∀ k, k < l.length → good B.length (l.getD k zz)) := fun k hk => hg _ (getD_mem l zz k hk)
  have HS : Hid (∀ k, k < l.length → tzs B (l.take (k + 1)) = tzs B (l.take k) ++ tz B (l.getD k zz)) := fun k hk => by rw [take_next l zz k hk, tzs_snoc]
  have HM : Hid (∀ k, (tzs B (l.take k)).length ≤ 4099) := fun k => by rw [tzs_take_len hg rfl]; exact Nat.le_trans (szs_take_le l k) hsz
  have HL : Hid (l.length ≤ 4099) := Nat.le_trans (szs_ge hg) hsz
  have HE : Hid (tzs B (l.take l.length) = tzs B l) := by show _ = _; rw [List.take_length]
  have HZ : Hid ((bs B).size = B.length) := bs_size B
  have HX : Hid (∀ p n, (bs B).extract p (p + n) = bs ((B.drop p).take n)) := slice_bs B
  have HB := Lib.hid hb
  clear hc hg hs hsz hR hb
  generalize bs B = sB at *
  have N0 : Hid (Lib.IsBuilder 220 5 w.heap.size w.heap.size (cbs (tzs B (l.take 0))) (w.alloc (.cells #[.pointer none, .slice none 0 0] 220))) := Lib.fresh_isBuilder _ _ w
  go_enter Tryz.func138, Tryz.ntmps138
  go_wp2
  go_loopw [12] (fun i wr => ∃ k : Nat, k ≤ l.length ∧ i = .int .i64 (k : Int) ∧ Hid (Lib.IsBuilder 220 5 w.heap.size w.heap.size (cbs (tzs B (l.take k))) wr) ∧ Hid (Below w.heap.size w wr)) (fun i _ => l.length - (intOf i).toNat)
  case atStart => exact ⟨0, Nat.zero_le _, rfl, N0, (Below.refl _ _).alloc (Nat.le_refl _) _⟩
  case round =>
    obtain ⟨k, hk, rfl, hN, hL⟩ := hrel
    by_cases hlt : k < l.length
    · obtain ⟨g, o, rfl, hgl, h0, h1⟩ := HC.out k hlt
      have c0 : wr.cell? ⟨g, o + k * 2, none⟩ = some (cpv (l.getD k zz)) := by rw [hL.out.cell hgl]; exact h0
      have c1 : wr.cell? ⟨g, o + k * 2 + 1, none⟩ = some (.string (bs (l.getD k zz).t)) := by rw [hL.out.cell hgl]; exact h1
      have D1 := C1.out k hlt
      have HD1 : Hid (∀ W, _) := Lib.hid D1
      have D2 := C2.out k hlt
      have HD2 : Hid (∀ W, _) := Lib.hid D2
      have S1 := HS.out k hlt
      have G1 := HG.out k hlt
      have M1 := HM.out (k + 1)
      have M0 := HM.out k
      have hl0 := HL.out
      have hB0 := HB.out
      have zk : (0 : Int) ≤ (k : Int) := by omega
      have yk : (k : Int) < (l.length : Int) := by omega
      have w1 : IntKind.i64.wrap ((k : Int) + 1) = (k : Int) + 1 := IntWalk.i64_in _ (by omega)
      obtain ⟨x, hx⟩ : ∃ x, x = l.getD k zz := ⟨_, rfl⟩
      rw [← hx] at c0 c1 HD1 HD2 S1 G1
      clear D1 D2 C1 C2 HC HS HG HM HE h0 h1 hx
      have ht : tz B x = if x.raw then x.t else (B.drop x.p).take x.n := rfl
      have zt := bs_size x.t
      by_cases cr : x.raw
      · rw [if_pos cr] at ht
        rw [decide_eq_false (show ¬ ¬ x.raw from fun h => h cr)] at HD1
        rw [ht] at S1
        have hlen : (tzs B (l.take k)).length + x.t.length ≤ 140737488355328 := by rw [S1, List.length_append] at M1; omega
        have WR : Hid (∀ W, Lib.IsBuilder 220 5 w.heap.size w.heap.size (cbs (tzs B (l.take k))) W → w.heap.size ≤ W.heap.size → Calls Tryz.prog 148 #[.pointer (some ⟨w.heap.size, 0, none⟩), .string (bs x.t)] W fun e w' => e = .returned (.tuple #[.int .i64 (bs x.t).size, .nilIface]) ∧ Lib.IsBuilder 220 5 w.heap.size w.heap.size (cbs (tzs B (l.take k) ++ x.t)) w' ∧ Below w.heap.size W w') := fun W h1 h2 => bwrite_any h1 hlen h2
        rw [← S1] at WR
        unfold cpv at c0 HD1 HD2
        generalize FB (x.p : Int) = P at *
        generalize FB (x.n : Int) = N at *
        generalize bs x.t = sb at *
        clear hlen S1 G1 M1 M0 hl0 hB0 ht cr zt HD2 hk
        have HGL := Lib.hid hgl
        clear hgl
        have O : Hid (∀ (W : World), Below (wr.alloc (.cells #[.complex .f64 P N, .string sb] 189)).heap.size (wr.alloc (.cells #[.complex .f64 P N, .string sb] 189)) W → W.cell? ⟨wr.heap.size, 1, none⟩ = some (.string sb) ∧ Below w.heap.size w W ∧ Lib.IsBuilder 220 5 w.heap.size w.heap.size (cbs (tzs B (l.take k))) W) := fun W B2 => by
          refine ⟨?_, (hL.out.alloc hL.out.size _).trans (B2.mono (by have := hL.out.size; simp; omega)), isb_all hN.out (alloc_below B2)⟩
          rw [B2.cell (by simp)]; exact cell_of_row _ _ _ _ _ _ (heap_alloc_new _ _)
        go_wp2_with fail
        refine (HD1.out _).mono ?_
        rintro e w3 ⟨rfl, B3⟩
        obtain ⟨d1, L3, N3⟩ := O.out w3 B3
        have HL3 := Lib.hid L3
        have HN3 := Lib.hid N3
        clear B3 HD1 c0 c1 O L3 N3 hN
        go_wp2_with fail
        refine (WR.out _ HN3.out HL3.out.size).mono ?_
        rintro e w4 ⟨rfl, N4, B4⟩
        have HL4 := Lib.hid (HL3.out.trans B4)
        have HN4 := Lib.hid N4
        clear B4 N4 d1 HN3
        go_wp2
        go_roundw
        case rel => exact ⟨k + 1, by omega, by go_num, HN4, HL4⟩
        case measure => simp [intOf]; omega
      · rw [if_neg cr] at ht
        rw [decide_eq_true cr] at HD1
        rw [ht] at S1
        have hg2 : x.p + x.n ≤ B.length := by
          unfold good at G1
          rw [if_neg cr] at G1
          exact G1.2.2.2
        have hlen : (tzs B (l.take k)).length + ((B.drop x.p).take x.n).length ≤ 140737488355328 := by rw [S1, List.length_append] at M1; omega
        have WR : Hid (∀ W, Lib.IsBuilder 220 5 w.heap.size w.heap.size (cbs (tzs B (l.take k))) W → w.heap.size ≤ W.heap.size → Calls Tryz.prog 148 #[.pointer (some ⟨w.heap.size, 0, none⟩), .string (sB.extract x.p (x.p + x.n))] W fun e w' => e = .returned (.tuple #[.int .i64 (sB.extract x.p (x.p + x.n)).size, .nilIface]) ∧ Lib.IsBuilder 220 5 w.heap.size w.heap.size (cbs (tzs B (l.take k) ++ (B.drop x.p).take x.n)) w' ∧ Below w.heap.size W w') := fun W h1 h2 => by
          rw [HX.out]
          exact bwrite_any h1 hlen h2
        rw [← S1] at WR
        have z1 : (0 : Int) ≤ (x.p : Int) := by omega
        have z2 : (x.p : Int) ≤ (x.p : Int) + (x.n : Int) := by omega
        have z3 : (x.p : Int) + (x.n : Int) ≤ (sB.size : Int) := by rw [HZ.out]; omega
        have w5 : IntKind.i64.wrap ((x.p : Int) + (x.n : Int)) = (x.p : Int) + (x.n : Int) := IntWalk.i64_in _ (by omega)
        have e5 : ((x.p : Int) + (x.n : Int)).toNat = x.p + x.n := by omega
        unfold cpv at c0 HD1 HD2
        generalize FB (x.p : Int) = P at *
        generalize FB (x.n : Int) = N at *
        generalize bs x.t = sb at *
        clear hlen S1 G1 M1 M0 hl0 hB0 ht cr zt hk hg2
        have HGL := Lib.hid hgl
        clear hgl
        have O : Hid (∀ (W : World), Below (wr.alloc (.cells #[.complex .f64 P N, .string sb] 189)).heap.size (wr.alloc (.cells #[.complex .f64 P N, .string sb] 189)) W → W.cell? ⟨wr.heap.size, 0, none⟩ = some (.complex .f64 P N) ∧ W.cell? ⟨wr.heap.size, 1, none⟩ = some (.string sb) ∧ Below w.heap.size w W ∧ Lib.IsBuilder 220 5 w.heap.size w.heap.size (cbs (tzs B (l.take k))) W) := fun W B2 => by
          refine ⟨?_, ?_, (hL.out.alloc hL.out.size _).trans (B2.mono (by have := hL.out.size; simp; omega)), isb_all hN.out (alloc_below B2)⟩
          · rw [B2.cell (by simp)]; exact cell_of_row _ _ _ _ _ _ (heap_alloc_new _ _)
          · rw [B2.cell (by simp)]; exact cell_of_row _ _ _ _ _ _ (heap_alloc_new _ _)
        go_wp2_with fail
        refine (HD1.out _).mono ?_
        rintro e w3 ⟨rfl, B3⟩
        obtain ⟨d0, d1, L3, N3⟩ := O.out w3 B3
        have HL3 := Lib.hid L3
        have HN3 := Lib.hid N3
        clear B3 HD1 c0 c1 O L3 N3 hN
        go_wp2_with fail
        refine (HD2.out _).mono ?_
        rintro e w4 ⟨rfl, B4⟩
        have HL4 := Lib.hid (HL3.out.trans (B4.mono HL3.out.size))
        have HN4 := Lib.hid (isb_all HN3.out B4)
        clear B4 HD2 d0 d1 HL3 HN3
        go_wp2_with fail
        refine (WR.out _ HN4.out HL4.out.size).mono ?_
        rintro e w5 ⟨rfl, N5, B5⟩
        have HL5 := Lib.hid (HL4.out.trans B5)
        have HN5 := Lib.hid N5
        clear B5 N5 WR
        go_wp2
        go_roundw
        case rel => exact ⟨k + 1, by omega, by go_num, HN5, HL5⟩
        case measure => simp [intOf]; omega
    · have e : k = l.length := by omega
      subst e
      have SS : Hid (∀ W, Lib.IsBuilder 220 5 w.heap.size w.heap.size (cbs (tzs B (l.take l.length))) W → w.heap.size ≤ W.heap.size → Calls Tryz.prog 149 #[.pointer (some ⟨w.heap.size, 0, none⟩)] W fun e w' => e = .returned (.string (bs (tzs B (l.take l.length)))) ∧ Below w.heap.size W w') := fun W h1 h2 => bstring_any h1 h2
      have D := SS.out wr hN.out hL.out.size
      rw [HE.out] at D
      have HD := Lib.hid D
      clear C1 C2 HC HG HS HM HX HZ SS D
      go_wp2_with fail
      refine HD.out.mono ?_
      rintro e w3 ⟨rfl, B3⟩
      have HL3 := Lib.hid (hL.out.trans B3)
      clear B3 HD
      go_wp2
      go_ret
      exact ⟨rfl, HL3.out⟩
end Go.Proofs.YtnmjcpoobabjgaaGreatDoor
/- A piece written. -/
namespace Go.Proofs.YtnmjcpoobabjgaaGreatDoor
set_option maxRecDepth 100000
open Go.RowKit
attribute [local go_sem] run_store_complex
end Go.Proofs.YtnmjcpoobabjgaaGreatDoor
/- The bytes, and the text, of pieces that are right. -/
namespace Go.Proofs.YtnmjcpoobabjgaaGreatDoor
set_option maxRecDepth 100000
open Go.RowKit
attribute [local go_sem] run_store_complex
set_option maxHeartbeats 1000000 in
theorem text_any (B : List UInt8) (l : List Pz) (v : Value) (w : World) (hb : B.length ≤ 4099) (hR : RowZ w v l) (hg : ∀ x ∈ l, good B.length x) (hs : ∀ x ∈ l, small x) (hsz : szs l ≤ 4099) :
    Calls Tryz.prog 122 #[.string (bs B), v] w fun e w' => e = .returned (.tuple #[.string (bs (tzs B l)), .int .i64 0]) ∧ Below w.heap.size w w' := by
  have hz := bs_size B
  have C1 : Hid (∀ W, RowZ W v l → Calls Tryz.prog 137 #[.int .i64 ((bs B).size : Int), v] W fun e w' => e = .returned (.tuple #[.int .i64 (szs l : Int), .int .i64 0]) ∧ Below W.heap.size W w') := fun W h => by
    rw [hz]
    exact length_any B.length l v W hb h hg hs hsz
  have C2 : Hid (∀ W, RowZ W v l → Calls Tryz.prog 138 #[.string (bs B), v] W fun e w' => e = .returned (.string (bs (tzs B l))) ∧ Below W.heap.size W w') := fun W h => join_any B l v W (by omega) h hg hs hsz
  have HR := Lib.hid hR
  clear hz hb hR hg hs hsz
  generalize bs B = sb at *
  go_enter Tryz.func122, Tryz.ntmps122
  go_wp2_with fail
  refine (C1.out _ HR.out).mono ?_
  rintro e w1 ⟨rfl, B1⟩
  have R1 := Lib.hid (HR.out.below B1)
  have L1 := Lib.hid B1
  clear B1 C1
  go_wp2_with fail
  refine (C2.out _ R1.out).mono ?_
  rintro e w2 ⟨rfl, B2⟩
  have L2 := Lib.hid (L1.out.trans (B2.mono L1.out.size))
  clear B2 C2
  go_wp2
  go_ret2
  exact ⟨rfl, L2.out⟩
end Go.Proofs.YtnmjcpoobabjgaaGreatDoor
