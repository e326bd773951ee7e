import Derived.Test.YthjeinedplbnmaaDoorW2
namespace Go.Proofs.YthjeinedplbnmaaDoor
open Go.RowKit
theorem joinF_old (ss : Nat → ByteArray) (k i : Nat) (h : i < offs ss k) : joinF ss (k + 1) i = joinF ss k i := by
  show (if i < offs ss k then joinF ss k i else _) = _
  rw [if_pos h]
theorem joinF_new (ss : Nat → ByteArray) (k i : Nat) : joinF ss (k + 1) (offs ss k + i) = sAt (ss k) i := by
  show (if offs ss k + i < offs ss k then _ else sAt (ss k) (offs ss k + i - offs ss k)) = _
  rw [if_neg (by omega), show offs ss k + i - offs ss k = i by omega]
theorem sum_next (ss : Nat → ByteArray) (k : Nat) : ~~~feeds (~~~sumF (joinF ss k) (offs ss k)) (sAt (ss k)) (ss k).size = sumF (joinF ss (k + 1)) (offs ss (k + 1)) := by
  unfold sumF
  rw [not_not']
  show _ = ~~~feeds ones (joinF ss (k + 1)) (offs ss k + (ss k).size)
  rw [feeds_add ones (joinF ss (k + 1)) (sAt (ss k)) _ _ (fun i _ => joinF_new ss k i), feeds_congr (f := joinF ss (k + 1)) (g := joinF ss k) (fun i hi => joinF_old ss k i hi)]
theorem sum_none (f : Nat → UInt8) : sumF f 0 = 0#32 := by show ~~~ones = _; decide
set_option maxHeartbeats 1000000 in
set_option maxRecDepth 100000 in
theorem csum_any (ss : Nat → ByteArray) (v : Value) (len : Nat) (w : World) (hl : len ≤ 1048576) (hn : offs ss len ≤ 1073741824) (hS : Strs w v ss len) (hk : ∀ i, i < 16 → w.cell? ⟨0, i, none⟩ = some (wv hb i)) :
    Calls Tryd.prog 12 #[v] w fun e w' => e = .returned (.int .u32 (U (sumF (joinF ss len) (offs ss len)))) ∧ w = w' := by
  obtain ⟨ad, cap, rfl, ha⟩ := strs_addr hS
  clear hS
  have HA := Lib.hid ha
  have HN := Lib.hid hn
  have HK := Lib.hid hk
  clear ha hn hk
  go_enter Tryd.func12, Tryd.ntmps12
  go_wp2
  go_loopw [3, 5, 8] (fun v _ i wr => ∃ k : Nat, k ≤ len ∧ i = .int .i64 k ∧ v = .int .u32 (U (sumF (joinF ss k) (offs ss k))) ∧ w = wr) (fun _ _ i _ => len - (intOf i).toNat)
  case atStart => exact ⟨0, by omega, rfl, congrArg (Value.int .u32) (by show (0 : Int) = U (sumF (joinF ss 0) 0); rw [sum_none]; rfl), rfl⟩
  case round =>
    obtain ⟨k, hk, rfl, rfl, rfl⟩ := hrel
    by_cases hlt : k < len
    · obtain ⟨b, o, rfl, hb, hc⟩ := HA.out (by omega)
      have ck := hc k hlt
      clear hc
      have zk : (0 : Int) ≤ (k : Int) := by omega
      have yk : (k : Int) < (len : Int) := by omega
      have hsz : (ss k).size ≤ 1073741824 := by
        have h1 := offs_mono ss (show k + 1 ≤ len by omega)
        have h2 : offs ss (k + 1) = offs ss k + (ss k).size := rfl
        have := HN.out
        omega
      go_wp2_with fail
      refine (add_any _ _ _ hsz HK.out).mono ?_
      rintro e w' ⟨rfl, rfl⟩
      go_wp2
      go_roundw
      case rel => exact ⟨k + 1, by omega, by go_num, congrArg (fun z => Value.int .u32 (U z)) (sum_next ss k), trivial⟩
      case measure => simp [intOf]; omega
    · have e : k = len := by omega
      subst e
      go_wp2
      go_ret
      exact ⟨rfl, rfl⟩
set_option maxHeartbeats 1000000 in
set_option maxRecDepth 100000 in
theorem great_any (ss : Nat → ByteArray) (v : Value) (len : Nat) (w : World) (hl : len ≤ 9223372036854775807) (hS : Strs w v ss len) :
    Calls Tryd.prog 9 #[v] w fun e w' => e = .returned (.bool (isGreat ss len)) ∧ w = w' := by
  obtain ⟨ad, cap, rfl, ha⟩ := strs_addr hS
  clear hS
  have HA := Lib.hid ha
  clear ha
  by_cases h40 : 40 < len
  · have b1 : (40 : Int) < (len : Int) := by omega
    have e : isGreat ss len = true := by unfold isGreat; rw [decide_eq_true h40]; rfl
    rw [e]
    clear e
    go_enter Tryd.func9, Tryd.ntmps9
    go_wp2
    go_ret
    exact ⟨rfl, rfl⟩
  · have b1 : (len : Int) ≤ 40 := by omega
    have e : isGreat ss len = longs ss len := by unfold isGreat; rw [decide_eq_false h40]; rfl
    rw [e]
    clear e
    go_enter Tryd.func9, Tryd.ntmps9
    go_wp2
    go_loopw [3] (fun i wr => ∃ k : Nat, k ≤ len ∧ i = .int .i64 k ∧ longs ss k = false ∧ w = wr) (fun i _ => len - (intOf i).toNat)
    case atStart => exact ⟨0, by omega, rfl, rfl, rfl⟩
    case round =>
      obtain ⟨k, hk, rfl, hf, rfl⟩ := hrel
      have Hf := Lib.hid hf
      clear hf
      by_cases hlt : k < len
      · obtain ⟨b, o, rfl, hb, hc⟩ := HA.out (by omega)
        have ck := hc k hlt
        clear hc
        have zk : (0 : Int) ≤ (k : Int) := by omega
        have yk : (k : Int) < (len : Int) := by omega
        by_cases h1 : 1000 < (ss k).size
        · have e : longs ss len = true := longs_true hlt h1
          have b2 : (1000 : Int) < ((ss k).size : Int) := by omega
          clear h1
          go_wp2
          go_ret
          rw [e]
          exact ⟨rfl, rfl⟩
        · have b2 : decide ((1000 : Int) < ((ss k).size : Int)) = false := by simp; omega
          have e : longs ss (k + 1) = false := by unfold longs; rw [Hf.out, decide_eq_false h1]; rfl
          have He := Lib.hid e
          clear h1 e
          go_wp2
          go_roundw
          case rel => exact ⟨k + 1, by omega, by go_num, He.out, trivial⟩
          case measure => simp [intOf]; omega
      · have e : k = len := by omega
        subst e
        go_wp2
        go_ret
        rw [Hf.out]
        exact ⟨rfl, rfl⟩
set_option maxHeartbeats 1000000 in
set_option maxRecDepth 100000 in
theorem join_any (ss : Nat → ByteArray) (v : Value) (len : Nat) (w : World) (hl : len ≤ 1048576) (hn : offs ss len ≤ 1073741824) (hS : Strs w v ss len) :
    Calls Tryd.prog 10 #[v] w fun e w' => e = .returned (.string (str (offs ss len) (joinF ss len))) ∧ w = w' := by
  obtain ⟨ad, cap, rfl, ha⟩ := strs_addr hS
  clear hS
  have HA := Lib.hid ha
  have HN := Lib.hid hn
  clear ha hn
  go_enter Tryd.func10, Tryd.ntmps10
  go_wp2
  go_loopw [3, 4] (fun v i wr => ∃ (k : Nat) (t : ByteArray), k ≤ len ∧ i = .int .i64 k ∧ v = .string t ∧ t = str (offs ss k) (joinF ss k) ∧ w = wr) (fun _ i _ => len - (intOf i).toNat)
  case atStart => exact ⟨0, _, by omega, rfl, rfl, rfl, rfl⟩
  case round =>
    obtain ⟨k, t, hk, rfl, rfl, ht, rfl⟩ := hrel
    have Ht := Lib.hid ht
    have ts : t.size = offs ss k := by rw [ht]; exact str_size _ _
    clear ht
    by_cases hlt : k < len
    · obtain ⟨b, o, rfl, hb, hc⟩ := HA.out (by omega)
      have ck := hc k hlt
      clear hc
      have zk : (0 : Int) ≤ (k : Int) := by omega
      have yk : (k : Int) < (len : Int) := by omega
      have h1 : offs ss (k + 1) ≤ 1073741824 := Nat.le_trans (offs_mono ss (by omega)) HN.out
      have h2 : offs ss (k + 1) = offs ss k + (ss k).size := rfl
      have n1 : ¬ 9223372036854775807 < t.size + (ss k).size := by omega
      have et : t ++ ss k = str (offs ss (k + 1)) (joinF ss (k + 1)) := by
        rw [Ht.out]
        have e1 : str (offs ss k) (joinF ss k) ++ ss k = str (offs ss k) (joinF ss k) ++ str (ss k).size (sAt (ss k)) := congrArg (fun z => str (offs ss k) (joinF ss k) ++ z) (str_self (ss k))
        rw [e1, str_congr (g := joinF ss (k + 1)) (fun i hi => by
          show joinF ss k i = if i < offs ss k then joinF ss k i else _
          rw [if_pos hi]), h2]
        exact str_add _ _ _ _ (fun i hi => by
          show (if offs ss k + i < offs ss k then _ else sAt (ss k) (offs ss k + i - offs ss k)) = _
          rw [if_neg (by omega), show offs ss k + i - offs ss k = i by omega])
      have Het := Lib.hid et
      clear h1 h2 ts et
      go_wp2
      go_roundw
      case rel => exact ⟨k + 1, _, by omega, by go_num, rfl, Het.out, trivial⟩
      case measure => simp [intOf]; omega
    · have e : k = len := by omega
      subst e
      go_wp2
      go_ret
      rw [Ht.out]
      exact ⟨rfl, rfl⟩
end Go.Proofs.YthjeinedplbnmaaDoor
