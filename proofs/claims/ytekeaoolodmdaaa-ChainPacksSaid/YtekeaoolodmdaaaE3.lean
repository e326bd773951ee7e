import Derived.Test.YtekeaoolodmdaaaE2
import Derived.Deep.QuietTactic
import Derived.BigQuiet
/- Spans, sizes; numbers held against bounds. -/
namespace Go.Proofs.Ytekeaoolodmdaaa
set_option maxRecDepth 100000
open Go.RowKit
theorem tInt : Try.prog.underlying 3 = some (.int .i64) := by kernel_rfl
theorem tF64 : Try.prog.underlying 77 = some (.float .f64) := by kernel_rfl
theorem cv_int (n : Int) (hn : n.natAbs < 9007199254740992) (w : World) : (convert 77 3 (.float .f64 (FB n))).run Try.prog w = .ok (.int .i64 n) w :=
  run_convert_float_int w 77 3 .f64 .i64 (FB n) n (by rw [tF64]; rfl) tInt (toInt_FB n hn)
set_option maxHeartbeats 400000 in
theorem span_any (x : Pz) (w : World) (hs : small x) : Calls Try.prog 64 #[pv x] w fun e w' => e = .returned (.tuple #[.int .i64 (x.p : Int), .int .i64 (x.n : Int)]) ∧ Below w.heap.size w w' := by
  have c1 := cv_int (x.p : Int) (by have := hs.1; omega)
  have c2 := cv_int (x.n : Int) (by have := hs.2; omega)
  unfold pv cpv
  generalize FB (x.p : Int) = a at *
  generalize FB (x.n : Int) = b at *
  clear hs
  go_enter Try.func64, Try.ntmps64
  go_wp2
  go_quiet (fail)
  go_wp2
  go_ret2
  exact ⟨rfl, ((Below.refl _ _).alloc (Nat.le_refl _) _).trans ⟨rfl, rfl, rfl, Nat.le_refl _, fun _ _ => rfl⟩⟩
set_option maxHeartbeats 400000 in
theorem size_any (x : Pz) (w : World) (hs : small x) : Calls Try.prog 60 #[pv x] w fun e w' => e = .returned (.int .i64 (sz x : Int)) ∧ Below w.heap.size w w' := by
  have C1 : Hid (∀ W, Calls Try.prog 62 #[pv x] W fun e w' => e = .returned (.bool (decide (¬ x.raw))) ∧ Below W.heap.size W w') := fun W => iscopy_any x W hs
  have C2 : Hid (∀ W, Calls Try.prog 64 #[pv x] W fun e w' => e = .returned (.tuple #[.int .i64 (x.p : Int), .int .i64 (x.n : Int)]) ∧ Below W.heap.size W w') := fun W => span_any x W hs
  have hz := bs_size x.t
  unfold sz
  by_cases c : x.raw
  · rw [if_pos c, ← hz]
    rw [decide_eq_false (show ¬ ¬ x.raw from fun h => h c)] at C1
    unfold pv at C1 C2 ⊢
    generalize bs x.t = sb at *
    generalize cpv x = cv at *
    clear hs c hz
    go_enter Try.func60, Try.ntmps60
    go_wp2_with fail
    refine (C1.out _).mono ?_
    rintro e w1 ⟨rfl, B1⟩
    have L1 := ((Below.refl w.heap.size w).alloc (Nat.le_refl _) (.cells #[cv, .string sb] 76)).trans (B1.mono (by simp))
    have c1 : w1.cell? ⟨w.heap.size, 1, none⟩ = some (.string sb) := by
      rw [B1.cell (by simp)]; exact cell_of_row _ _ _ _ _ _ (heap_alloc_new _ _)
    clear B1 C1
    go_wp2
    go_ret
    exact ⟨rfl, L1⟩
  · rw [if_neg c]
    rw [decide_eq_true c] at C1
    unfold pv at C1 C2 ⊢
    generalize bs x.t = sb at *
    generalize cpv x = cv at *
    clear hs c hz
    go_enter Try.func60, Try.ntmps60
    go_wp2_with fail
    refine (C1.out _).mono ?_
    rintro e w1 ⟨rfl, B1⟩
    have L1 := ((Below.refl w.heap.size w).alloc (Nat.le_refl _) (.cells #[cv, .string sb] 76)).trans (B1.mono (by simp))
    have c0 : w1.cell? ⟨w.heap.size, 0, none⟩ = some cv := by
      rw [B1.cell (by simp)]; exact cell_of_row _ _ _ _ _ _ (heap_alloc_new _ _)
    have c1 : w1.cell? ⟨w.heap.size, 1, none⟩ = some (.string sb) := by
      rw [B1.cell (by simp)]; exact cell_of_row _ _ _ _ _ _ (heap_alloc_new _ _)
    clear B1 C1
    go_wp2_with fail
    refine (C2.out _).mono ?_
    rintro e w2 ⟨rfl, B2⟩
    have L2 := L1.trans (B2.mono L1.size)
    clear B2
    go_wp2
    go_ret
    exact ⟨rfl, L2⟩
theorem getLit0 (v : Value) (h : (#[v] : Array Value).size = 1) (q : 0 < 1) : (#[v] : Array Value).getLit 0 h q = v := rfl
theorem integral_of (x : Nat) (s : Bool) (m : Nat) (e : Int) (h : FloatKind.f64.decode x = .number s m e) : Extern.MathFloor.toIntegral "math.archTrunc" .zero #[.float .f64 x] = pure (.float .f64 (FloatKind.f64.encode ((Ieee.Datum.number s m e).integral .zero))) := by
  delta Extern.MathFloor.toIntegral
  delta Extern.MathFloor.toIntegral.match_2
  dsimp only
  rw [dif_pos (by rfl), getLit0]
  delta Extern.MathFloor.toIntegral._sparseCasesOn_2 Extern.MathFloor.toIntegral._sparseCasesOn_3
  dsimp only
  rw [h]
theorem arch_trunc (n : Int) (hn : n.natAbs < 9007199254740992) (w : World) : (callFunc 86 #[.float .f64 (FB n)]).run Try.prog w = .ok (.value (.float .f64 (FB n))) w := by
  rw [run_callFunc_extern Try.func86 (by kernel_rfl) (by kernel_rfl) (by kernel_rfl) (e := Extern.MathFloor.toIntegral "math.archTrunc" .zero) (by kernel_rfl)]
  have h := integral_read n hn .zero
  obtain ⟨k, hk⟩ := FB_read n hn
  rw [hk] at h
  rw [integral_of _ _ _ _ hk, h]
  rfl
theorem trunc_any (n : Int) (hn : n.natAbs < 9007199254740992) (w : World) : Calls Try.prog 82 #[.float .f64 (FB n)] w fun e w' => e = .returned (.float .f64 (FB n)) ∧ w = w' := by
  have h1 := fun w => arch_trunc n hn w
  generalize FB n = a at *
  clear hn
  go_enter Try.func82, Try.ntmps82
  go_wp2
  go_ret
  exact ⟨rfl, rfl⟩
theorem ord_lt {a b : Int} (h : a < b) (ha : a.natAbs < 9007199254740992) (hb : b.natAbs < 9007199254740992) : FloatKind.f64.format.order (FB a) (FB b) = some .lt := by
  refine (order_FB a b ha hb).trans (congrArg some ?_)
  simp [compare, compareOfLessAndEq, h]
theorem ord_eq {a b : Int} (h : a = b) (ha : a.natAbs < 9007199254740992) : FloatKind.f64.format.order (FB a) (FB b) = some .eq := by
  subst h
  refine (order_FB a a ha ha).trans (congrArg some ?_)
  simp [compare, compareOfLessAndEq]
theorem ord_gt {a b : Int} (h : b < a) (ha : a.natAbs < 9007199254740992) (hb : b.natAbs < 9007199254740992) : FloatKind.f64.format.order (FB a) (FB b) = some .gt := by
  refine (order_FB a b ha hb).trans (congrArg some ?_)
  have h1 : ¬ (a < b) := by omega
  have h2 : ¬ (a = b) := by omega
  simp [compare, compareOfLessAndEq, h1, h2]
theorem ord_ge {a b : Int} (h : b ≤ a) (ha : a.natAbs < 9007199254740992) (hb : b.natAbs < 9007199254740992) : FloatKind.f64.format.order (FB a) (FB b) = some .gt ∨ FloatKind.f64.format.order (FB a) (FB b) = some .eq := by
  by_cases c : a = b
  · exact Or.inr (ord_eq c ha)
  · exact Or.inl (ord_gt (by omega) ha hb)
theorem ord_le {a b : Int} (h : a ≤ b) (ha : a.natAbs < 9007199254740992) (hb : b.natAbs < 9007199254740992) : FloatKind.f64.format.order (FB a) (FB b) = some .lt ∨ FloatKind.f64.format.order (FB a) (FB b) = some .eq := by
  by_cases c : a = b
  · exact Or.inr (ord_eq c ha)
  · exact Or.inl (ord_lt (by omega) ha hb)
set_option maxHeartbeats 1000000 in
theorem within_any (v l m : Int) (w : World) (hv : v.natAbs < 9007199254740992) (hl : l.natAbs < 9007199254740992) (hm : m.natAbs < 9007199254740992) :
    Calls Try.prog 74 #[.float .f64 (FB v), .float .f64 (FB l), .float .f64 (FB m)] w fun e w' => e = .returned (.bool (decide (l ≤ v ∧ v ≤ m))) ∧ w = w' := by
  have C := trunc_any v hv w
  have o3 := ord_eq (rfl : v = v) hv
  by_cases c1 : l ≤ v
  · by_cases c2 : v ≤ m
    · rw [decide_eq_true ⟨c1, c2⟩]
      have h1 := ord_ge c1 hv hl
      have h2 := ord_le c2 hv hm
      clear c1 c2 hv hl hm
      generalize FB v = V at *
      generalize FB l = L at *
      generalize FB m = M at *
      rcases h1 with o1 | o1 <;> rcases h2 with o2 | o2
      all_goals
        go_enter Try.func74, Try.ntmps74
        go_wp2_with fail
        refine C.mono ?_
        rintro e w1 ⟨rfl, rfl⟩
        go_wp2
        go_ret
        exact ⟨rfl, rfl⟩
    · rw [decide_eq_false (fun h => c2 h.2)]
      have h1 := ord_ge c1 hv hl
      have o2 := ord_gt (show m < v by omega) hv hm
      clear c1 c2 hv hl hm C o3
      generalize FB v = V at *
      generalize FB l = L at *
      generalize FB m = M at *
      rcases h1 with o1 | o1
      all_goals
        go_enter Try.func74, Try.ntmps74
        go_wp2
        go_ret
        exact ⟨rfl, rfl⟩
  · rw [decide_eq_false (fun h => c1 h.1)]
    have o1 := ord_lt (show v < l by omega) hv hl
    clear c1 hv hl hm C o3
    generalize FB v = V at *
    generalize FB l = L at *
    generalize FB m = M at *
    go_enter Try.func74, Try.ntmps74
    go_wp2
    go_ret
    exact ⟨rfl, rfl⟩
end Go.Proofs.Ytekeaoolodmdaaa
