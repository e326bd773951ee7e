import Derived.Test.YthjeinedplbnmaaDoorPs
import Derived.Test.YthjeinedplbnmaaDoorW1
namespace Go.Proofs.YthjeinedplbnmaaDoor
open Go.RowKit
theorem ty9 : Tryd.prog.underlying 9 = some .string := by kernel_rfl
theorem idx_str (s : ByteArray) (i : Nat) (h : i < s.size) (w : World) : (Instr.index 9 (.string s) (.int .i64 (i : Int))).run Tryd.prog w = .ok (.int .u8 ((sAt s i).toNat : Int)) w := by
  have hs : s.data.size = s.size := rfl
  have e : sAt s i = s[i] := by
    unfold sAt
    rw [List.getD_eq_getElem?_getD, Array.getElem?_toList, Array.getElem?_eq_getElem (by omega)]; rfl
  rw [e]
  have hai : (asIntOf (.int .i64 (i : Int))).run Tryd.prog w = .ok (.i64, (i : Int)) w := rfl
  simp [Instr.index, run_underlying ty9, hai, h]
theorem U_m (x : W32) : U x % 4294967296 = U x := by have := U_ge x; have := U_lt x; omega
attribute [local go_sem] U_xor U_not U_neg U_m
set_option maxHeartbeats 400000 in
theorem add_any (x : W32) (s : ByteArray) (w : World) (hs : s.size ≤ 1073741824) (hk : ∀ i, i < 16 → w.cell? ⟨0, i, none⟩ = some (wv hb i)) :
    Calls Tryd.prog 14 #[.int .u32 (U x), .string s] w fun e w' => e = .returned (.int .u32 (U (~~~feeds (~~~x) (sAt s) s.size))) ∧ w = w' := by
  have HK := Lib.hid hk
  clear hk
  go_enter Tryd.func14, Tryd.ntmps14
  go_wp2
  go_loopw [5, 6, 11] (fun v _ i wr => ∃ k : Nat, k ≤ s.size ∧ i = .int .i64 k ∧ v = .int .u32 (U (feeds (~~~x) (sAt s) k)) ∧ w = wr) (fun _ _ i _ => s.size - (intOf i).toNat)
  case atStart => exact ⟨0, by omega, rfl, rfl, rfl⟩
  case round =>
    obtain ⟨k, hk, rfl, rfl, rfl⟩ := hrel
    by_cases hlt : k < s.size
    · have i1 := idx_str s k hlt
      have yk : (k : Int) < (s.size : Int) := by omega
      go_wp2_with fail
      refine (fed_any _ _ _ HK.out).mono ?_
      rintro e w' ⟨rfl, rfl⟩
      go_wp2
      go_roundw
      case rel => exact ⟨k + 1, by omega, by go_num, rfl, trivial⟩
      case measure => simp [intOf]; omega
    · have e : k = s.size := by omega
      subst e
      go_wp2
      go_ret
      exact ⟨rfl, rfl⟩
set_option maxHeartbeats 400000 in
theorem refsum_any (s : ByteArray) (w : World) (hs : s.size ≤ 1073741824) :
    Calls Tryd.prog 13 #[.string s] w fun e w' => e = .returned (.int .u32 (U (sumF (sAt s) s.size))) ∧ w = w' := by
  go_enter Tryd.func13, Tryd.ntmps13
  go_wp2
  go_loopw [3, 4] (fun v i wr => ∃ k : Nat, k ≤ s.size ∧ i = .int .i64 k ∧ v = .int .u32 (U (feeds ones (sAt s) k)) ∧ w = wr) (fun _ i _ => s.size - (intOf i).toNat)
  case atStart => exact ⟨0, by omega, rfl, rfl, rfl⟩
  case round =>
    obtain ⟨k, hk, rfl, rfl, rfl⟩ := hrel
    by_cases hlt : k < s.size
    · have i1 := idx_str s k hlt
      have yk : (k : Int) < (s.size : Int) := by omega
      go_wp2_with fail
      refine (Feed_any _ _ _).mono ?_
      rintro e w' ⟨rfl, rfl⟩
      go_wp2
      go_roundw
      case rel => exact ⟨k + 1, by omega, by go_num, rfl, trivial⟩
      case measure => simp [intOf]; omega
    · have e : k = s.size := by omega
      subst e
      have l0 := U_ge (feeds ones (sAt s) s.size)
      have l1 := U_lt (feeds ones (sAt s) s.size)
      go_wp2
      go_ret
      refine ⟨?_, rfl⟩
      show Ending.returned (.int .u32 (U (~~~feeds ones (sAt s) s.size) % 4294967296)) = _
      rw [U_m]
      rfl
theorem Feed_zero (x : W32) (w : World) :
    Calls Tryd.prog 11 #[.int .u32 (U x), .int .u8 0] w fun e w' => e = .returned (.int .u32 (U (feed x 0))) ∧ w = w' := Feed_any x 0 w
theorem fed_zero (x : W32) (w : World) (hk : ∀ i, i < 16 → w.cell? ⟨0, i, none⟩ = some (wv hb i)) :
    Calls Tryd.prog 23 #[.int .u32 (U x), .int .u8 0] w fun e w' => e = .returned (.int .u32 (U (feed x 0))) ∧ w = w' := fed_any x 0 w hk
set_option maxHeartbeats 400000 in
theorem refzeros_any (x : W32) (n : Int) (w : World) (h0 : -9223372036854775808 ≤ n) (h1 : n ≤ 1048576) :
    Calls Tryd.prog 15 #[.int .u32 (U x), .int .i64 n] w fun e w' => e = .returned (.int .u32 (U (zeros x n.toNat))) ∧ w = w' := by
  obtain ⟨m, hm⟩ : ∃ m, m = n.toNat := ⟨_, rfl⟩
  rw [← hm]
  have Hm := Lib.hid hm
  clear hm
  go_enter Tryd.func15, Tryd.ntmps15
  go_wp2
  go_loopw [0, 5] (fun v i wr => ∃ k : Nat, k ≤ m ∧ i = .int .i64 k ∧ v = .int .u32 (U (zeros x k)) ∧ w = wr) (fun _ i _ => m - (intOf i).toNat)
  case atStart => exact ⟨0, by omega, rfl, rfl, rfl⟩
  case round =>
    obtain ⟨k, hk, rfl, rfl, rfl⟩ := hrel
    have hm := Hm.out
    by_cases hlt : k < m
    · have yk : (k : Int) < n := by omega
      have zk : (k : Int) < 1048576 := by omega
      clear hm
      go_wp2_with fail
      refine (Feed_zero _ _).mono ?_
      rintro e w' ⟨rfl, rfl⟩
      go_wp2
      go_roundw
      case rel => exact ⟨k + 1, by omega, by go_num, rfl, trivial⟩
      case measure => simp [intOf]; omega
    · have e : k = m := by omega
      have yk : n ≤ (k : Int) := by omega
      subst e
      clear hm hlt
      go_wp2
      go_ret
      exact ⟨rfl, rfl⟩
set_option maxHeartbeats 400000 in
theorem zeros_any (x : W32) (n : Int) (w : World) (h0 : -9223372036854775808 ≤ n) (h1 : n ≤ 1048576) (hk : ∀ i, i < 16 → w.cell? ⟨0, i, none⟩ = some (wv hb i)) :
    Calls Tryd.prog 16 #[.int .u32 (U x), .int .i64 n] w fun e w' => e = .returned (.int .u32 (U (zeros x n.toNat))) ∧ w = w' := by
  have HK := Lib.hid hk
  clear hk
  obtain ⟨m, hm⟩ : ∃ m, m = n.toNat := ⟨_, rfl⟩
  rw [← hm]
  have Hm := Lib.hid hm
  clear hm
  go_enter Tryd.func16, Tryd.ntmps16
  go_wp2
  go_loopw [0, 7] (fun v i wr => ∃ k : Nat, k ≤ m ∧ i = .int .i64 k ∧ v = .int .u32 (U (zeros x k)) ∧ w = wr) (fun _ i _ => m - (intOf i).toNat)
  case atStart => exact ⟨0, by omega, rfl, rfl, rfl⟩
  case round =>
    obtain ⟨k, hk, rfl, rfl, rfl⟩ := hrel
    have hm := Hm.out
    by_cases hlt : k < m
    · have yk : (k : Int) < n := by omega
      have zk : (k : Int) < 1048576 := by omega
      clear hm
      go_wp2_with fail
      refine (fed_zero _ _ HK.out).mono ?_
      rintro e w' ⟨rfl, rfl⟩
      go_wp2
      go_roundw
      case rel => exact ⟨k + 1, by omega, by go_num, rfl, trivial⟩
      case measure => simp [intOf]; omega
    · have e : k = m := by omega
      have yk : n ≤ (k : Int) := by omega
      subst e
      clear hm hlt
      go_wp2
      go_ret
      exact ⟨rfl, rfl⟩
set_option maxHeartbeats 400000 in
theorem cjoin_any (a b : W32) (n : Int) (w : World) (h0 : -9223372036854775808 ≤ n) (h1 : n ≤ 1048576) (hk : ∀ i, i < 16 → w.cell? ⟨0, i, none⟩ = some (wv hb i)) :
    Calls Tryd.prog 17 #[.int .u32 (U a), .int .u32 (U b), .int .i64 n] w fun e w' => e = .returned (.int .u32 (U (zeros a n.toNat ^^^ b))) ∧ w = w' := by
  go_enter Tryd.func17, Tryd.ntmps17
  go_wp2_with fail
  refine (zeros_any _ _ _ h0 h1 hk).mono ?_
  rintro e w' ⟨rfl, rfl⟩
  go_wp2
  go_ret
  exact ⟨rfl, rfl⟩
end Go.Proofs.YthjeinedplbnmaaDoor
