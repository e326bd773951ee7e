import Derived.Test.YtnfhnkplkbpmpaaDoorProg
import Derived.Test.YtnfhnkplkbpmpaaDoorPa
import Derived.WalkKit
import Derived.WalkSpells
import Derived.WalkLawsBesides
namespace Go.Proofs.YtnfhnkplkbpmpaaDoor
open Go.RowKit
attribute [local go_sem] U_xor U_and U_or U_add U_addm U_shl U_shr U_shlm U_shrm U_xor3 U_xor10
set_option maxHeartbeats 400000 in
theorem rot_any (x : W32) (n : Nat) (w : World) (h0 : 0 < n) (h1 : n < 32) :
    Calls Tryd.prog 38 #[.int .u32 (U x), .int .i64 (-(n:Int))] w fun e w' => e = .returned (.int .u32 (U (rr x n))) ∧ w = w' := by
  have e1 := neg_and31 n h1 h0
  have l0 := U_ge x
  have l1 := U_lt x
  go_enter Tryd.func38, Tryd.ntmps38
  go_wp2
  go_ret
  rw [show 32 - (32 - n) = n by omega]
  exact ⟨rfl, rfl⟩
set_option maxHeartbeats 400000 in
theorem tr_any (x : W32) (n : Nat) (w : World) (h0 : 0 < n) (h1 : n < 32) :
    Calls Tryd.prog 37 #[.int .u32 (U x), .int .i64 n] w fun e w' => e = .returned (.int .u32 (U (rr x n))) ∧ w = w' := by
  go_enter Tryd.func37, Tryd.ntmps37
  go_wp2_with fail
  refine (rot_any x n _ h0 h1).mono ?_
  rintro e w' ⟨rfl, rfl⟩
  go_wp2
  go_ret
  exact ⟨rfl, rfl⟩
theorem tr_at (x : W32) (k : Int) (n : Nat) (w : World) (hk : k = n) (h0 : 0 < n) (h1 : n < 32) :
    Calls Tryd.prog 37 #[.int .u32 (U x), .int .i64 k] w fun e w' => e = .returned (.int .u32 (U (rr x n))) ∧ w = w' := by
  subst hk; exact tr_any x n w h0 h1
set_option maxHeartbeats 400000 in
theorem bS1_any (x : W32) (w : World) :
    Calls Tryd.prog 33 #[.int .u32 (U x)] w fun e w' => e = .returned (.int .u32 (U (bS1 x))) ∧ w = w' := by
  go_enter Tryd.func33, Tryd.ntmps33
  go_wp2_with fail
  refine (tr_at x 6 6 _ rfl (by omega) (by omega)).mono ?_
  rintro e w' ⟨rfl, rfl⟩
  go_wp2_with fail
  refine (tr_at x 11 11 _ rfl (by omega) (by omega)).mono ?_
  rintro e w' ⟨rfl, rfl⟩
  go_wp2_with fail
  refine (tr_at x 25 25 _ rfl (by omega) (by omega)).mono ?_
  rintro e w' ⟨rfl, rfl⟩
  go_wp2_with fail
  go_ret
  exact ⟨rfl, rfl⟩
set_option maxHeartbeats 400000 in
theorem bS0_any (x : W32) (w : World) :
    Calls Tryd.prog 34 #[.int .u32 (U x)] w fun e w' => e = .returned (.int .u32 (U (bS0 x))) ∧ w = w' := by
  go_enter Tryd.func34, Tryd.ntmps34
  go_wp2_with fail
  refine (tr_at x 2 2 _ rfl (by omega) (by omega)).mono ?_
  rintro e w' ⟨rfl, rfl⟩
  go_wp2_with fail
  refine (tr_at x 13 13 _ rfl (by omega) (by omega)).mono ?_
  rintro e w' ⟨rfl, rfl⟩
  go_wp2_with fail
  refine (tr_at x 22 22 _ rfl (by omega) (by omega)).mono ?_
  rintro e w' ⟨rfl, rfl⟩
  go_wp2_with fail
  go_ret
  exact ⟨rfl, rfl⟩
set_option maxHeartbeats 400000 in
theorem sS1_any (x : W32) (w : World) :
    Calls Tryd.prog 35 #[.int .u32 (U x)] w fun e w' => e = .returned (.int .u32 (U (sS1 x))) ∧ w = w' := by
  have l0 := U_ge x
  have l1 := U_lt x
  go_enter Tryd.func35, Tryd.ntmps35
  go_wp2_with fail
  refine (tr_at x 17 17 _ rfl (by omega) (by omega)).mono ?_
  rintro e w' ⟨rfl, rfl⟩
  go_wp2_with fail
  refine (tr_at x 19 19 _ rfl (by omega) (by omega)).mono ?_
  rintro e w' ⟨rfl, rfl⟩
  go_wp2_with fail
  go_ret
  exact ⟨rfl, rfl⟩
set_option maxHeartbeats 400000 in
theorem sS0_any (x : W32) (w : World) :
    Calls Tryd.prog 36 #[.int .u32 (U x)] w fun e w' => e = .returned (.int .u32 (U (sS0 x))) ∧ w = w' := by
  have l0 := U_ge x
  have l1 := U_lt x
  go_enter Tryd.func36, Tryd.ntmps36
  go_wp2_with fail
  refine (tr_at x 7 7 _ rfl (by omega) (by omega)).mono ?_
  rintro e w' ⟨rfl, rfl⟩
  go_wp2_with fail
  refine (tr_at x 18 18 _ rfl (by omega) (by omega)).mono ?_
  rintro e w' ⟨rfl, rfl⟩
  go_wp2_with fail
  go_ret
  exact ⟨rfl, rfl⟩
end Go.Proofs.YtnfhnkplkbpmpaaDoor
