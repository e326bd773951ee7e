import Derived.Test.YtdfoejgkjfklcaaMX7
/- Base, the places as the index keeps them. -/
namespace Go.Proofs.Ytdfoejgkjfklcaa.Mt
set_option maxRecDepth 100000
open Go.RowKit
theorem tries_nil (s : ByteArray) (at_ : Int) (w : World) : Calls Try.prog 39 #[.pointer none, .string s, .int .i64 at_] w fun e w' => e = .returned (.slice none 0 0) ∧ w = w' := by
  go_enter Try.func39, Try.ntmps39
  go_wp2
  go_ret
  exact ⟨rfl, rfl⟩
set_option maxHeartbeats 1000000 in
theorem tries_out (p : Nat) (s : ByteArray) (at_ : Int) (w : World) (hs : s.size ≤ 1000000) (ho : at_ < 0 ∨ (s.size : Int) < at_ + 16) :
    Calls Try.prog 39 #[.pointer (some ⟨p, 0, none⟩), .string s, .int .i64 at_] w fun e w' => e = .returned (.slice none 0 0) ∧ w = w' := by
  have w1 : IntKind.i64.wrap ((s.size : Int) - 16) = (s.size : Int) - 16 := IntWalk.i64_in _ (by omega)
  by_cases h0 : at_ < 0
  · clear ho hs
    go_enter Try.func39, Try.ntmps39
    go_wp2
    go_ret
    exact ⟨rfl, rfl⟩
  · have h1 : (s.size : Int) - 16 < at_ := by omega
    clear ho hs
    go_enter Try.func39, Try.ntmps39
    go_wp2
    go_ret
    exact ⟨rfl, rfl⟩
set_option maxHeartbeats 2000000 in
theorem tries_in {w : World} {b p : Nat} {B : ByteArray} (h : Ix w b p B) (s : ByteArray) (k : Nat) (hs : s.size ≤ 1000000) (hk : k + 16 ≤ s.size) :
    Calls Try.prog 39 #[.pointer (some ⟨p, 0, none⟩), .string s, .int .i64 (k : Int)] w fun e w' => ∃ v, e = .returned v ∧ w'.ownsRow b 3 1 v (tri (sAt B) B.size (sAt s) s.size (k : Int)).length (iv (tri (sAt B) B.size (sAt s) s.size (k : Int))) ∧ (tri (sAt B) B.size (sAt s) s.size (k : Int) = [] → v = .slice none 0 0) ∧ Below w.heap.size w w' := by
  have w1 : IntKind.i64.wrap ((s.size : Int) - 16) = (s.size : Int) - 16 := IntWalk.i64_in _ (by omega)
  have w2 : IntKind.i64.wrap ((k : Int) + 16) = (k : Int) + 16 := IntWalk.i64_in _ (by omega)
  have h0 : ¬ ((k : Int) < 0) := by omega
  have h1 : ¬ ((s.size : Int) - 16 < (k : Int)) := by omega
  have h3 : (k : Int) + 16 ≤ (s.size : Int) := by omega
  obtain ⟨t, ht⟩ : ∃ t, t = s.extract k (k + 16) := ⟨_, rfl⟩
  have ts : t.size = 16 := by rw [ht, size_ext s k (k + 16) (by omega) (by omega)]; omega
  have tf : ∀ j, j < 16 → sAt t j = sh (sAt s) k j := fun j hj => by rw [ht, sAt_ext s k (k + 16) j (by omega) (by omega) (by omega)]; rfl
  have C1 : Hid (∀ W : World, Calls Try.prog 55 #[.string t] W fun e w' => ∃ c d, e = .returned (.tuple #[.complex .f64 c d, .bool true]) ∧ Cx c d (num (sAt s) k).1 (num (sAt s) k).2 ∧ Below W.heap.size W w') := fun W => of_win t (sh (sAt s) k) W ts tf
  have et : s.extract k (k + 16) = t := ht.symm
  have H := Lib.hid h
  rw [tri_in k hk]
  obtain ⟨T, hT⟩ : ∃ T, T = fun x => pl (sAt B) x (B.size - 15) := ⟨_, rfl⟩
  have HT : Hid (∀ x, T x = pl (sAt B) x (B.size - 15)) := fun x => by rw [hT]
  rw [← HT.out]
  clear h hs hk ht ts tf hT
  go_enter Try.func39, Try.ntmps39
  go_wp2_with fail
  refine (C1.out _).mono ?_
  rintro e w5 ⟨c, d, rfl, hc, B2⟩
  have I5 := H.out.below (Nat.le_refl _) B2
  obtain ⟨m, c0, c1, hM⟩ := I5.cells
  obtain ⟨v, hv, hO, hE⟩ := hM.look hc
  have hv0 := hv 0
  have HO := Lib.hid hO
  have HE := Lib.hid hE
  have HB := Lib.hid B2
  clear hM I5 hc B2 C1 H hv hO hE
  go_wp2_with (at_lookup; refine wpList_lookup_run rfl (.tmp 34) (.tmp 35) 73 rfl _ _ _ rfl rfl hv0 ?_)
  go_ret
  have e := HO.out
  have e2 := HE.out
  rw [← HT.out] at e e2
  exact ⟨_, rfl, e, e2, HB.out⟩
end Go.Proofs.Ytdfoejgkjfklcaa.Mt
