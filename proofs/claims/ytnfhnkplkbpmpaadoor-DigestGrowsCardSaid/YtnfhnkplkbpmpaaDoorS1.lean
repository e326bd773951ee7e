import Derived.Test.YtnfhnkplkbpmpaaDoorR4
namespace Go.Proofs.YtnfhnkplkbpmpaaDoor
open Go.RowKit
/- more parts than 40, or a part of more than 1000 bytes -/
def longs (ss : Nat → ByteArray) : Nat → Bool
  | 0 => false
  | k + 1 => longs ss k || decide (1000 < (ss k).size)
theorem longs_false {ss : Nat → ByteArray} {len : Nat} (h : longs ss len = false) : ∀ i, i < len → (ss i).size ≤ 1000 := by
  induction len with
  | zero => intro i hi; omega
  | succ k ih =>
    unfold longs at h
    rw [Bool.or_eq_false_iff] at h
    intro i hi
    by_cases c : i < k
    · exact ih h.1 i c
    · have e : i = k := by omega
      subst e
      have := of_decide_eq_false h.2
      omega
theorem longs_true {ss : Nat → ByteArray} {k len : Nat} (hk : k < len) (h : 1000 < (ss k).size) : longs ss len = true := by
  induction len with
  | zero => omega
  | succ n ih =>
    unfold longs
    by_cases c : k < n
    · rw [ih c, Bool.true_or]
    · have e : k = n := by omega
      subst e
      rw [decide_eq_true h, Bool.or_true]
def isGreat (ss : Nat → ByteArray) (len : Nat) : Bool := decide (40 < len) || longs ss len
theorem offs_le (ss : Nat → ByteArray) (len : Nat) (h : ∀ i, i < len → (ss i).size ≤ 1000) : offs ss len ≤ 1000 * len := by
  induction len with
  | zero => exact Nat.le_refl _
  | succ k ih =>
    have h1 := ih (fun i hi => h i (by omega))
    have h2 := h k (by omega)
    show offs ss k + (ss k).size ≤ _
    omega
theorem strs_addr {w : World} {v : Value} {ss : Nat → ByteArray} {len : Nat} (h : Strs w v ss len) : ∃ ad cap, v = .slice ad len cap ∧ (0 < len → ∃ b o, ad = some ⟨b, o, none⟩ ∧ b < w.heap.size ∧ ∀ i, i < len → w.cell? ⟨b, o + i, none⟩ = some (.string (ss i))) := by
  rcases h with ⟨ad, cap, rfl, rfl⟩ | ⟨b, o, cap, rfl, h0, hb, hc⟩
  · exact ⟨ad, cap, rfl, fun h => absurd h (by omega)⟩
  · exact ⟨_, cap, rfl, fun _ => ⟨b, o, rfl, hb, hc⟩⟩
set_option maxHeartbeats 1000000 in
set_option maxRecDepth 100000 in
theorem great_any (ss : Nat → ByteArray) (v : Value) (len : Nat) (w : World) (hl : len ≤ 9223372036854775807) (hS : Strs w v ss len) :
    Calls Tryd.prog 9 #[v] w fun e w' => e = .returned (.bool (isGreat ss len)) ∧ w = w' := by
  obtain ⟨ad, cap, rfl, ha⟩ := strs_addr hS
  clear hS
  have HA := Lib.hid ha
  clear ha
  by_cases h40 : 40 < len
  · have b1 : (40 : Int) < (len : Int) := by omega
    have e : isGreat ss len = true := by unfold isGreat; rw [decide_eq_true h40]; rfl
    rw [e]
    clear e
    go_enter Tryd.func9, Tryd.ntmps9
    go_wp2
    go_ret
    exact ⟨rfl, rfl⟩
  · have b1 : (len : Int) ≤ 40 := by omega
    have e : isGreat ss len = longs ss len := by unfold isGreat; rw [decide_eq_false h40]; rfl
    rw [e]
    clear e
    go_enter Tryd.func9, Tryd.ntmps9
    go_wp2
    go_loopw [3] (fun i wr => ∃ k : Nat, k ≤ len ∧ i = .int .i64 k ∧ longs ss k = false ∧ w = wr) (fun i _ => len - (intOf i).toNat)
    case atStart => exact ⟨0, by omega, rfl, rfl, rfl⟩
    case round =>
      obtain ⟨k, hk, rfl, hf, rfl⟩ := hrel
      have Hf := Lib.hid hf
      clear hf
      by_cases hlt : k < len
      · obtain ⟨b, o, rfl, hb, hc⟩ := HA.out (by omega)
        have ck := hc k hlt
        clear hc
        have zk : (0 : Int) ≤ (k : Int) := by omega
        have yk : (k : Int) < (len : Int) := by omega
        by_cases h1 : 1000 < (ss k).size
        · have e : longs ss len = true := longs_true hlt h1
          have b2 : (1000 : Int) < ((ss k).size : Int) := by omega
          clear h1
          go_wp2
          go_ret
          rw [e]
          exact ⟨rfl, rfl⟩
        · have b2 : decide ((1000 : Int) < ((ss k).size : Int)) = false := by simp; omega
          have e : longs ss (k + 1) = false := by unfold longs; rw [Hf.out, decide_eq_false h1]; rfl
          have He := Lib.hid e
          clear h1 e
          go_wp2
          go_roundw
          case rel => exact ⟨k + 1, by omega, by go_num, He.out, trivial⟩
          case measure => simp [intOf]; omega
      · have e : k = len := by omega
        subst e
        go_wp2
        go_ret
        rw [Hf.out]
        exact ⟨rfl, rfl⟩
set_option maxHeartbeats 1000000 in
set_option maxRecDepth 100000 in
theorem join_any (ss : Nat → ByteArray) (v : Value) (len : Nat) (w : World) (hl : len ≤ 1048576) (hn : offs ss len ≤ 1073741824) (hS : Strs w v ss len) :
    Calls Tryd.prog 12 #[v] w fun e w' => e = .returned (.string (str (offs ss len) (joinF ss len))) ∧ w = w' := by
  obtain ⟨ad, cap, rfl, ha⟩ := strs_addr hS
  clear hS
  have HA := Lib.hid ha
  have HN := Lib.hid hn
  clear ha hn
  go_enter Tryd.func12, Tryd.ntmps12
  go_wp2
  go_loopw [3, 4] (fun v i wr => ∃ (k : Nat) (t : ByteArray), k ≤ len ∧ i = .int .i64 k ∧ v = .string t ∧ t = str (offs ss k) (joinF ss k) ∧ w = wr) (fun _ i _ => len - (intOf i).toNat)
  case atStart => exact ⟨0, _, by omega, rfl, rfl, rfl, rfl⟩
  case round =>
    obtain ⟨k, t, hk, rfl, rfl, ht, rfl⟩ := hrel
    have Ht := Lib.hid ht
    have ts : t.size = offs ss k := by rw [ht]; exact str_size _ _
    clear ht
    by_cases hlt : k < len
    · obtain ⟨b, o, rfl, hb, hc⟩ := HA.out (by omega)
      have ck := hc k hlt
      clear hc
      have zk : (0 : Int) ≤ (k : Int) := by omega
      have yk : (k : Int) < (len : Int) := by omega
      have h1 : offs ss (k + 1) ≤ 1073741824 := Nat.le_trans (offs_mono ss (by omega)) HN.out
      have h2 : offs ss (k + 1) = offs ss k + (ss k).size := rfl
      have n1 : ¬ 9223372036854775807 < t.size + (ss k).size := by omega
      have et : t ++ ss k = str (offs ss (k + 1)) (joinF ss (k + 1)) := by
        rw [Ht.out]
        have e1 : str (offs ss k) (joinF ss k) ++ ss k = str (offs ss k) (joinF ss k) ++ str (ss k).size (sAt (ss k)) := congrArg (fun z => str (offs ss k) (joinF ss k) ++ z) (str_self (ss k))
        rw [e1, str_congr (g := joinF ss (k + 1)) (fun i hi => by
          show joinF ss k i = if i < offs ss k then joinF ss k i else _
          rw [if_pos hi]), h2]
        exact str_add _ _ _ _ (fun i hi => by
          show (if offs ss k + i < offs ss k then _ else sAt (ss k) (offs ss k + i - offs ss k)) = _
          rw [if_neg (by omega), show offs ss k + i - offs ss k = i by omega])
      have Het := Lib.hid et
      clear h1 h2 ts et
      go_wp2
      go_roundw
      case rel => exact ⟨k + 1, _, by omega, by go_num, rfl, Het.out, trivial⟩
      case measure => simp [intOf]; omega
    · have e : k = len := by omega
      subst e
      go_wp2
      go_ret
      rw [Ht.out]
      exact ⟨rfl, rfl⟩
end Go.Proofs.YtnfhnkplkbpmpaaDoor
