import Derived.Test.YtdfoejgkjfklcaaMX3
import Derived.Deep.Cut
import Derived.Deep.QuietTactic
import Derived.BigQuiet
/- The document's answer: Parts. -/
namespace Go.Proofs.Ytdfoejgkjfklcaa.Mt
open Go.RowKit
theorem wx_at {r : Nat} (f : Nat → UInt8) (k : Nat) (h : (15 - k) % 4 = r) : wx f (k + 1) = wx f k + rx r (lo (f k)) (hi (f k)) ∧ wy f (k + 1) = wy f k + ry r (lo (f k)) (hi (f k)) := by
  have hr : r % 4 = r := by omega
  constructor
  · show wx f k + rx (15 - k) (lo (f k)) (hi (f k)) = _
    unfold rx
    rw [h, hr]
  · show wy f k + ry (15 - k) (lo (f k)) (hi (f k)) = _
    unfold ry
    rw [h, hr]
set_option maxHeartbeats 2000000 in
theorem parts_any (s : ByteArray) (at_ : Nat) (f : Nat → UInt8) (w : World) (hs : at_ + 16 ≤ s.size) (hs2 : s.size ≤ 1000000) (hf : ∀ i, i < 16 → sAt s (at_ + i) = f i) :
    Calls Try.prog 58 #[.string s, .int .i64 (at_ : Int)] w fun e w' => e = .returned (.tuple #[.int .i64 (wx f 16), .int .i64 (wy f 16)]) ∧ Below w.heap.size w w' := by
  have ix : ∀ i : Nat, i < 16 → ∀ w : World, (Instr.index 9 (.string s) (.int .i64 ((at_ : Int) + (i : Int)))).run Try.prog w = .ok (.int .u8 ((f i).toNat : Int)) w := fun i hi w => by
    rw [← hf i hi, ← Int.natCast_add]; exact idx_str s (at_ + i) (by omega) w
  have IX := Lib.hid ix
  have HS := Lib.hid hs
  clear hf ix hs
  go_enter Try.func58, Try.ntmps58
  go_wp2
  go_loopw [6, 7, 8, 9, 10, 32, 40, 48, 56] (fun x y i _ _ _ _ _ _ wr => ∃ (k : Nat), k ≤ 16 ∧ i = .int .i64 k ∧ x = .int .i64 (wx f k) ∧ y = .int .i64 (wy f k) ∧ Below w.heap.size w wr) (fun _ _ i _ _ _ _ _ _ _ => 16 - (intOf i).toNat)
  case atStart => exact ⟨0, by omega, rfl, rfl, rfl, Below.refl _ _⟩
  case round =>
    obtain ⟨k, hk, rfl, rfl, rfl, hB⟩ := hrel
    by_cases hlt : k < 16
    · have i1 := IX.out k hlt
      have yk : (k : Int) < 16 := by omega
      have HB := Lib.hid hB
      have w0 : IntKind.i64.wrap ((at_ : Int) + (k : Int)) = (at_ : Int) + (k : Int) := IntWalk.i64_in _ (by have := HS.out; omega)
      have w1 : IntKind.i64.wrap (15 - (k : Int)) = 15 - (k : Int) := IntWalk.i64_in _ (by omega)
      have l1 := lo_le (f k)
      have l2 := hi_le (f k)
      have l5 := wx_le f k
      have n0 : (0 : Int) ≤ ((f k).toNat : Int) := by omega
      have m1 : ((f k).toNat : Int).tmod 16 = lo (f k) := by rw [Int.tmod_eq_emod_of_nonneg n0]; unfold lo; omega
      have m2 : ((f k).toNat : Int) % 16 = lo (f k) := by unfold lo; omega
      have m3 : ((f k).toNat : Int).tdiv 16 = hi (f k) := by rw [Int.tdiv_eq_ediv_of_nonneg n0]; unfold hi; omega
      have m4 : ((f k).toNat : Int) / 16 = hi (f k) := by unfold hi; omega
      obtain ⟨r, hr⟩ : ∃ r, (15 - k) % 4 = r := ⟨_, rfl⟩
      have hrs : r = 0 ∨ r = 1 ∨ r = 2 ∨ r = 3 := by omega
      have r1 : (15 - (k : Int)).tmod 4 = (r : Int) := by rw [Int.tmod_eq_emod_of_nonneg (by omega)]; omega
      have r2 : (15 - (k : Int)) % 4 = (r : Int) := by omega
      obtain ⟨e1, e2⟩ := wx_at f k hr
      have E1 := Lib.hid e1
      have E2 := Lib.hid e2
      clear hB hr e1 e2
      go_upto_region 5 with fail
      go_quiet (fail)
      have L := Lib.hid (below_drewN HB.out nq)
      clear HB i1 IX HS w0 w1 m1 m2 m3 m4 n0
      rcases hrs with rfl | rfl | rfl | rfl
      all_goals
        simp only [rx, ry] at E1 E2
        go_wp2
        go_roundw
        case rel => exact ⟨k + 1, by omega, by go_num, by rw [E1.out]; rfl, by rw [E2.out]; rfl, L.out⟩
        case measure => simp [intOf]; omega
    · have e : k = 16 := by omega
      subst e
      go_wp2
      go_ret2
      exact ⟨rfl, hB⟩
end Go.Proofs.Ytdfoejgkjfklcaa.Mt
