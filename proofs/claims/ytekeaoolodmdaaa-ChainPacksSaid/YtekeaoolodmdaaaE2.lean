import Derived.Test.YtekeaoolodmdaaaV1m
import Derived.Test.YtekeaoolodmdaaaFf
import Derived.Test.YtekeaoolodmdaaaE0
import Derived.WalkSpells
import Derived.WalkLawsBesides
import Derived.Laws.StructEq
import Derived.Laws.Externs
/- Pieces as values; which are copies, from where, how many bytes. -/
namespace Go.Proofs.Ytekeaoolodmdaaa
set_option maxRecDepth 100000
open Go.RowKit
theorem run_store_complex (P : Program) (w : World) (a : Addr) (m : Mode) (k : FloatKind) (x y : Nat) : (store a (.complex k x y) m).run P w = stored P w a (.complex k x y) m := run_store P w a _ m rfl
/- a piece's value -/
def cpv (x : Pz) : Value := .complex .f64 (FB (x.p : Int)) (FB (x.n : Int))
def pv (x : Pz) : Value := .agg #[cpv x, .string (bs x.t)]
/- no part is beyond what bytes can say -/
def small (x : Pz) : Prop := x.p ≤ 1099511627775 ∧ x.n ≤ 1099511627775
theorem ord0 (n : Nat) (h : n ≤ 1099511627775) : FloatKind.f64.format.order (FB (n : Int)) 0 = some (if n = 0 then .eq else .gt) := by
  have e := order_FB (n : Int) 0 (by omega) (by decide)
  rw [FB_0] at e
  refine e.trans (congrArg some ?_)
  by_cases c : n = 0
  · subst c; rw [if_pos rfl]; rfl
  · rw [if_neg c]; have h1 : ¬ ((n : Int) < 0) := by omega
    have h2 : ¬ ((n : Int) = 0) := by omega
    simp [compare, compareOfLessAndEq, h1, h2]
    exact c
theorem iscopy_any (x : Pz) (w : World) (hs : small x) : Calls Try.prog 62 #[pv x] w fun e w' => e = .returned (.bool (decide (¬ x.raw))) ∧ Below w.heap.size w w' := by
  have o1 := ord0 x.p hs.1
  have o2 := ord0 x.n hs.2
  have r0 : x.raw = (x.p = 0 ∧ x.n = 0) := rfl
  unfold pv cpv
  by_cases c1 : x.p = 0
  · by_cases c2 : x.n = 0
    · rw [if_pos c1] at o1
      rw [if_pos c2] at o2
      rw [decide_eq_false (show ¬ ¬ x.raw by rw [r0]; omega)]
      generalize FB (x.p : Int) = a at *
      generalize FB (x.n : Int) = b at *
      clear c1 c2 hs r0
      go_enter Try.func62, Try.ntmps62
      go_wp2
      go_ret
      exact ⟨rfl, (Below.refl _ _).alloc (Nat.le_refl _) _⟩
    · rw [if_pos c1] at o1
      rw [if_neg c2] at o2
      rw [decide_eq_true (show ¬ x.raw by rw [r0]; omega)]
      generalize FB (x.p : Int) = a at *
      generalize FB (x.n : Int) = b at *
      clear c1 c2 hs r0
      go_enter Try.func62, Try.ntmps62
      go_wp2
      go_ret
      exact ⟨rfl, (Below.refl _ _).alloc (Nat.le_refl _) _⟩
  · rw [if_neg c1] at o1
    rw [decide_eq_true (show ¬ x.raw by rw [r0]; omega)]
    generalize FB (x.p : Int) = a at *
    generalize FB (x.n : Int) = b at *
    clear c1 o2 hs r0
    go_enter Try.func62, Try.ntmps62
    go_wp2
    go_ret
    exact ⟨rfl, (Below.refl _ _).alloc (Nat.le_refl _) _⟩
end Go.Proofs.Ytekeaoolodmdaaa
