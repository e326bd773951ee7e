import Derived.Test.YtkicbejeaohkcaaXA
import Derived.Test.YtkicbejeaohkcaaSh
/- A text's copy; alive. -/
namespace Go.Proofs.Ytkicbejeaohkcaa
open Go.RowKit
theorem clone_any (s : ByteArray) (w : World) (hs : s.size ≤ 281474976710656) :
    Calls Try.prog 16 #[.string s] w fun e w' => e = .returned (.string s) ∧ Below w.heap.size w w' := by
  have H := clone_shelf0 s w hs
  go_enter Try.func16, Try.ntmps16
  go_wp2_with fail
  refine H.mono ?_
  rintro e w1 ⟨rfl, L⟩
  go_wp2
  go_ret
  exact ⟨rfl, L⟩
theorem mnew_any (s : ByteArray) (w : World) (hs : s.size ≤ 2000) :
    Calls Try.prog 8 #[.string s] w fun e w' => ∃ p b, e = .returned (.pointer (some ⟨p, 0, none⟩)) ∧ Ix w' b p s ∧ Below w.heap.size w w' := new_any s w hs fun W => clone_any s W (by omega)
def aliveB : ByteArray := ⟨#[48, 49, 50, 51, 52, 53, 54, 55, 56, 57, 97, 98, 99, 100, 101, 102, 88, 89]⟩
def aliveS : ByteArray := ⟨#[45, 45, 48, 49, 50, 51, 52, 53, 54, 55, 56, 57, 97, 98, 99, 100, 101, 102, 88, 90]⟩
theorem alive_fnd : fnd (sAt aliveB) 18 (sAt aliveS) 20 2 = (0, 17) := by decide +kernel
set_option maxHeartbeats 1000000 in
theorem alive_any (w : World) : Calls Try.prog 7 #[] w fun e w' => e = .returned (.bool true) ∧ Below w.heap.size w w' := by
  have C1 : Hid (∀ W : World, Calls Try.prog 8 #[.string ⟨#[48, 49, 50, 51, 52, 53, 54, 55, 56, 57, 97, 98, 99, 100, 101, 102, 88, 89]⟩] W fun e w' => ∃ p b, e = .returned (.pointer (some ⟨p, 0, none⟩)) ∧ Ix w' b p aliveB ∧ Below W.heap.size W w') := fun W => mnew_any aliveB W (by decide)
  have C2 : Hid (∀ (W : World) (b p : Nat), Ix W b p aliveB → Calls Try.prog 9 #[.pointer (some ⟨p, 0, none⟩), .string ⟨#[45, 45, 48, 49, 50, 51, 52, 53, 54, 55, 56, 57, 97, 98, 99, 100, 101, 102, 88, 90]⟩, .int .i64 2] W fun e w' => e = .returned (.tuple #[.int .i64 0, .int .i64 17]) ∧ Below W.heap.size W w') := fun W b p h => by
    have := find_any h aliveS 2 (by decide) (by decide)
    rw [show aliveB.size = 18 from rfl, show aliveS.size = 20 from rfl, alive_fnd] at this
    exact this
  have C3 : Hid (∀ (W : World) (b p : Nat), Ix W b p aliveB → Calls Try.prog 13 #[.pointer (some ⟨p, 0, none⟩)] W fun e w' => e = .returned (.string ⟨#[48, 49, 50, 51, 52, 53, 54, 55, 56, 57, 97, 98, 99, 100, 101, 102, 88, 89]⟩) ∧ W = w') := fun W b p h => base_any h
  go_enter Try.func7, Try.ntmps7
  go_wp2_with fail
  refine (C1.out _).mono ?_
  rintro e w1 ⟨p, b, rfl, hI, B1⟩
  have HI := Lib.hid hI
  have HB := Lib.hid B1
  clear hI B1 C1
  go_wp2_with fail
  refine (C2.out _ b p HI.out).mono ?_
  rintro e w2 ⟨rfl, B2⟩
  have HI2 : Hid (Ix w2 b p aliveB) := HI.out.below (Nat.le_refl _) B2
  have HB2 : Hid (Below w.heap.size w w2) := HB.out.trans (B2.mono HB.out.size)
  clear HI B2 HB C2
  go_wp2_with fail
  refine (C3.out _ b p HI2.out).mono ?_
  rintro e w3 ⟨rfl, rfl⟩
  go_wp2
  go_ret
  exact ⟨rfl, HB2.out⟩
end Go.Proofs.Ytkicbejeaohkcaa
