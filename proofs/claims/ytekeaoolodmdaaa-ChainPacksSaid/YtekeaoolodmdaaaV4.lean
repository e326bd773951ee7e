import Derived.Test.YtekeaoolodmdaaaV1m
import Derived.Test.YtekeaoolodmdaaaSh
import Derived.Deep.QuietTactic
import Derived.BigQuiet
/- A new reader; its first error; where all was read. -/
namespace Go.Proofs.Ytekeaoolodmdaaa
open Go.RowKit
theorem clone_any (s : ByteArray) (w : World) (hs : s.size ≤ 281474976710656) :
    Calls Try.prog 26 #[.string s] w fun e w' => e = .returned (.string s) ∧ Below w.heap.size w w' := by
  have H := clone_shelf0 s w hs
  go_enter Try.func26, Try.ntmps26
  go_wp2_with fail
  refine H.mono ?_
  rintro e w1 ⟨rfl, L⟩
  go_wp2
  go_ret
  exact ⟨rfl, L⟩
set_option maxHeartbeats 400000 in
set_option maxRecDepth 100000 in
theorem new_any (l : List UInt8) (w : World) (hs : l.length ≤ 281474976710656) :
    Calls Try.prog 69 #[.string (bs l)] w fun e w' => ∃ r, e = .returned (.pointer (some ⟨r, 0, none⟩)) ∧ w.heap.size ≤ r ∧ Rd w' r l 0 0 ∧ Below w.heap.size w w' := by
  have H := clone_any (bs l) w (by rw [bs_size]; exact hs)
  have E : Hid (∀ w1 : World, Rd (w1.alloc (.cells #[.string (bs l), .int .i64 0, .int .i64 0] 133)) w1.heap.size l 0 0) := fun w1 => heap_alloc_new _ _
  obtain ⟨sb, hsb⟩ : ∃ sb, sb = bs l := ⟨_, rfl⟩
  rw [← hsb] at H E ⊢
  clear hsb hs
  go_enter Try.func69, Try.ntmps69
  go_wp2_with fail
  refine H.mono ?_
  rintro e w1 ⟨rfl, L⟩
  go_wp2
  go_ret
  exact ⟨_, rfl, L.size, E.out _, L.alloc L.size _⟩
theorem err_any {w : World} {r : Nat} {l p e} (h : Rd w r l p e) : Calls Try.prog 77 #[.pointer (some ⟨r, 0, none⟩)] w fun v w' => v = .returned (.int .i64 e) ∧ w = w' := by
  obtain ⟨c0, c1, c2, f1, f2⟩ := h.cells
  clear h c0 c1 f1 f2
  go_enter Try.func77, Try.ntmps77
  go_wp2
  go_ret
  exact ⟨rfl, rfl⟩
theorem below_drewN {B : Nat} {a w : World} (h : Below B a w) (n : Nat) : Below B a (w.drewN n) := h.trans ⟨rfl, rfl, rfl, Nat.le_refl _, fun _ _ => rfl⟩
/- what End says -/
def endOf (n p : Nat) (e : Int) : Int := if e ≠ 0 then e else if p < n then 5 else 0
set_option maxHeartbeats 400000 in
set_option maxRecDepth 100000 in
theorem end_any {w : World} {r : Nat} {l p e} (h : Rd w r l p e) : Calls Try.prog 71 #[.pointer (some ⟨r, 0, none⟩)] w fun v w' => v = .returned (.int .i64 (endOf l.length p e)) ∧ Below w.heap.size w w' := by
  have H := err_any h
  obtain ⟨c0, c1, c2, f1, f2⟩ := h.cells
  have hz := bs_size l
  obtain ⟨sb, hsb⟩ : ∃ sb, sb = bs l := ⟨_, rfl⟩
  rw [← hsb] at c0 hz
  clear h f1 f2 c2 hsb
  by_cases he : e = 0
  · subst he
    by_cases hp : p < l.length
    · have e1 : endOf l.length p 0 = 5 := by unfold endOf; rw [if_neg (by omega), if_pos hp]
      have t1 : (p : Int) < (sb.size : Int) := by omega
      rw [e1]
      clear hz hp e1
      go_enter Try.func71, Try.ntmps71
      go_wp2_with fail
      refine H.mono ?_
      rintro e w1 ⟨rfl, rfl⟩
      go_wp2
      go_quiet (fail)
      go_wp2
      go_ret
      exact ⟨rfl, below_drewN (Below.refl _ _) _⟩
    · have e1 : endOf l.length p 0 = 0 := by unfold endOf; rw [if_neg (by omega), if_neg hp]
      have t1 : ¬ ((p : Int) < (sb.size : Int)) := by omega
      rw [e1]
      clear hz hp e1
      go_enter Try.func71, Try.ntmps71
      go_wp2_with fail
      refine H.mono ?_
      rintro e w1 ⟨rfl, rfl⟩
      go_wp2
      go_quiet (fail)
      go_wp2
      go_ret
      exact ⟨rfl, below_drewN (Below.refl _ _) _⟩
  · have e1 : endOf l.length p e = e := by unfold endOf; rw [if_pos he]
    rw [e1]
    clear hz e1 c0 c1
    go_enter Try.func71, Try.ntmps71
    go_wp2_with fail
    refine H.mono ?_
    rintro e w1 ⟨rfl, rfl⟩
    go_wp2
    go_ret
    exact ⟨rfl, Below.refl _ _⟩
end Go.Proofs.Ytekeaoolodmdaaa
