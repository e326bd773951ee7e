import Derived.Test.YtekeaoolodmdaaaED
/- What a delta makes of a text. -/
namespace Go.Proofs.Ytekeaoolodmdaaa
set_option maxRecDepth 100000
open Go.RowKit
theorem good_small {b : Nat} {x : Pz} (hb : b ≤ 4099) (h : good b x) : small x := by
  unfold good at h
  unfold small
  by_cases c : x.raw
  · exact ⟨by rw [c.1]; omega, by rw [c.2]; omega⟩
  · rw [if_neg c] at h
    omega
/- what is made: the text, the error -/
def aRes (B d : List UInt8) : List UInt8 × Int := match dRead d with | none => ([], 2) | some x => if B.length = x.1 then (tzs B x.2, 0) else ([], 19)
set_option maxHeartbeats 1000000 in
theorem apply_any (B d : List UInt8) (w : World) (hB : B.length ≤ 1000000) (hl : d.length ≤ 1000000000) :
    Calls Try.prog 40 #[.string (bs B), .string (bs d)] w fun e w' => e = .returned (.tuple #[.string (bs (aRes B d).1), .int .i64 (aRes B d).2]) ∧ Below w.heap.size w w' := by
  have C1 : Hid (∀ W, _) := Lib.hid (fun W => read_any d W hl)
  have hz := bs_size B
  unfold aRes
  cases hd : dRead d with
  | none =>
    dsimp only
    rw [hd] at C1
    have e0 : bs [] = ⟨#[]⟩ := rfl
    rw [e0]
    generalize bs B = sB at *
    generalize bs d = sd at *
    clear hz hB hl hd
    go_enter Try.func40, Try.ntmps40
    go_wp2_with fail
    refine (C1.out _).mono ?_
    rintro e w1 ⟨he, B1⟩
    have he2 : e = .returned (.tuple #[.int .i64 0, .slice none 0 0, .int .i64 2]) := he
    subst he2
    have L1 := Lib.hid B1
    clear he B1 C1
    go_wp2
    go_ret2
    exact ⟨rfl, L1.out⟩
  | some x =>
    obtain ⟨b, l⟩ := x
    obtain ⟨hb, hg, hs⟩ := dRead_good hd
    dsimp only
    rw [hd] at C1
    by_cases c : B.length = b
    · rw [if_pos c]
      subst c
      have C2 : Hid (∀ W v, RowZ W v l → Calls Try.prog 57 #[.string (bs B), v] W fun e w' => e = .returned (.tuple #[.string (bs (tzs B l)), .int .i64 0]) ∧ Below W.heap.size W w') := fun W v h => text_any B l v W hb h hg (fun x hx => good_small hb (hg x hx)) hs
      have ht : ((bs B).size : Int) = (B.length : Int) := by rw [hz]
      generalize bs B = sB at *
      generalize bs d = sd at *
      generalize bs (tzs B l) = st at *
      clear hB hl hd hb hg hs
      go_enter Try.func40, Try.ntmps40
      go_wp2_with fail
      refine (C1.out _).mono ?_
      rintro e w1 ⟨⟨v, he, hO⟩, B1⟩
      have he2 : e = .returned (.tuple #[.int .i64 (B.length : Int), v, .int .i64 0]) := he
      subst he2
      have L1 := Lib.hid B1
      have R1 : Hid (RowZ w1 v l) := hO.row
      clear he hO B1 C1
      go_wp2_with fail
      refine (C2.out _ _ R1.out).mono ?_
      rintro e w2 ⟨rfl, B2⟩
      have L2 := Lib.hid (L1.out.trans (B2.mono L1.out.size))
      clear B2 C2
      go_wp2
      go_ret2
      exact ⟨rfl, L2.out⟩
    · rw [if_neg c]
      have e0 : bs [] = ⟨#[]⟩ := rfl
      dsimp only
      rw [e0]
      have h2 : ¬ ((B.length : Int) = (b : Int)) := by omega
      have ht : (((bs B).size : Int) != (b : Int)) = true := by rw [hz]; simpa using h2
      generalize bs B = sB at *
      generalize bs d = sd at *
      clear hB hl hd hb hg hs hz c h2
      go_enter Try.func40, Try.ntmps40
      go_wp2_with fail
      refine (C1.out _).mono ?_
      rintro e w1 ⟨⟨v, he, hO⟩, B1⟩
      have he2 : e = .returned (.tuple #[.int .i64 (b : Int), v, .int .i64 0]) := he
      subst he2
      have L1 := Lib.hid B1
      clear he hO B1 C1
      go_wp2
      go_ret2
      exact ⟨rfl, L1.out⟩
end Go.Proofs.Ytekeaoolodmdaaa
