import Derived.Test.YthjeinedplbnmaaDoorProg
import Derived.Test.YthjeinedplbnmaaDoorPa
import Derived.Test.YthjeinedplbnmaaDoorPc
import Derived.WalkKit
import Derived.WalkSpells
import Derived.WalkLawsBesides
import Derived.Lib.Hide
namespace Go.Proofs.YthjeinedplbnmaaDoor
open Go.RowKit
attribute [local go_sem] U_xor U_xorP U_shrm U_shr1 U_shr4 U_not U_neg U_w8
set_option maxHeartbeats 400000 in
theorem step_any (x : W32) (w : World) :
    Calls Tryd.prog 22 #[.int .u32 (U x)] w fun e w' => e = .returned (.int .u32 (U (stp x))) ∧ w = w' := by
  have m := U_mod2 x
  have l0 := U_ge x
  have l1 := U_lt x
  cases h : odd x
  · have e : stp x = x >>> 1 := stp_even h
    rw [h] at m
    simp only [Bool.false_eq_true, if_false] at m
    have m2 : (U x).tmod 2 = 0 := by rw [Int.tmod_eq_emod_of_nonneg l0]; exact m
    rw [e]
    clear e h
    go_enter Tryd.func22, Tryd.ntmps22
    go_wp2
    go_ret
    exact ⟨rfl, rfl⟩
  · have e : stp x = x >>> 1 ^^^ pol := by unfold stp; rw [h]; rfl
    rw [h] at m
    simp only [if_true] at m
    have m2 : (U x).tmod 2 = 1 := by rw [Int.tmod_eq_emod_of_nonneg l0]; exact m
    rw [e]
    clear e h
    go_enter Tryd.func22, Tryd.ntmps22
    go_wp2
    go_ret
    exact ⟨rfl, rfl⟩
set_option maxHeartbeats 400000 in
theorem Feed_any (x : W32) (b : UInt8) (w : World) :
    Calls Tryd.prog 11 #[.int .u32 (U x), .int .u8 (b.toNat : Int)] w fun e w' => e = .returned (.int .u32 (U (feed x b))) ∧ w = w' := by
  obtain ⟨y, hy⟩ : ∃ y, y = x ^^^ X8 b := ⟨_, rfl⟩
  have e : feed x b = stps 8 y := by rw [hy]; rfl
  rw [e]
  go_enter Tryd.func11, Tryd.ntmps11
  go_wp2
  rw [← hy]
  clear hy e
  go_loopw [0, 5] (fun v i wr => ∃ k : Nat, k ≤ 8 ∧ i = .int .i64 k ∧ v = .int .u32 (U (stps k y)) ∧ w = wr) (fun _ i _ => 8 - (intOf i).toNat)
  case atStart => exact ⟨0, by omega, rfl, rfl, rfl⟩
  case round =>
    obtain ⟨k, hk, rfl, rfl, rfl⟩ := hrel
    by_cases hlt : k < 8
    · have yk : (k : Int) < 8 := by omega
      go_wp2_with fail
      refine (step_any _ _).mono ?_
      rintro e w' ⟨rfl, rfl⟩
      go_wp2
      go_roundw
      case rel => exact ⟨k + 1, by omega, by go_num, rfl, trivial⟩
      case measure => simp [intOf]; omega
    · have e : k = 8 := by omega
      subst e
      go_wp2
      go_ret
      exact ⟨rfl, rfl⟩
set_option maxHeartbeats 400000 in
theorem fed_any (x : W32) (b : UInt8) (w : World) (hk : ∀ i, i < 16 → w.cell? ⟨0, i, none⟩ = some (wv hb i)) :
    Calls Tryd.prog 23 #[.int .u32 (U x), .int .u8 (b.toNat : Int)] w fun e w' => e = .returned (.int .u32 (U (feed x b))) ∧ w = w' := by
  obtain ⟨y, hy⟩ : ∃ y, y = x ^^^ X8 b := ⟨_, rfl⟩
  rw [← half_feed, ← hy]
  obtain ⟨i, hi⟩ : ∃ i, i = y.toNat % 16 := ⟨_, rfl⟩
  have i16 : i < 16 := by omega
  have a1 : bits .and .u32 (U y) 15 = (i : Int) := by rw [U_and15, hi]
  have c1 : w.cell? ⟨0, i, none⟩ = some (.int .u32 (U (hb i))) := hk i i16
  obtain ⟨z, hz⟩ : ∃ z, z = hb i ^^^ y >>> 4 := ⟨_, rfl⟩
  have ez : half y = z := by unfold half; rw [hz, hi]
  rw [ez]
  obtain ⟨j, hj⟩ : ∃ j, j = z.toNat % 16 := ⟨_, rfl⟩
  have j16 : j < 16 := by omega
  have a2 : bits .and .u32 (U z) 15 = (j : Int) := by rw [U_and15, hj]
  have c2 : w.cell? ⟨0, j, none⟩ = some (.int .u32 (U (hb j))) := hk j j16
  have e2 : half z = hb j ^^^ z >>> 4 := by unfold half; rw [hj]
  rw [e2]
  clear e2 ez hi hj hk
  have g1 : (i : Int) < 16 := by omega
  have g2 : (j : Int) < 16 := by omega
  have ey : x ^^^ X8 b = y := hy.symm
  have ez : hb i ^^^ y >>> 4 = z := hz.symm
  clear hy hz
  go_enter Tryd.func23, Tryd.ntmps23
  go_wp2
  go_ret
  exact ⟨rfl, rfl⟩
end Go.Proofs.YthjeinedplbnmaaDoor
