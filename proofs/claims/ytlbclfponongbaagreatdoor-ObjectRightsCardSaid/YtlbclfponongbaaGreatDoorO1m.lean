import Derived.Test.YtlbclfponongbaaGreatDoorO0
import Derived.Lib.Bytealg
/- Whether a name may be: the program's answer, and the reference's. -/
namespace Go.Proofs.YtlbclfponongbaaGreatDoor
open Go.RowKit
theorem nok_dec (b : UInt8) : nok b ↔ ¬ ((b.toNat : Int) < 33) ∧ ¬ ((126 : Int) < (b.toNat : Int)) ∧ ¬ ((b.toNat : Int) = 47) := by unfold nok; omega
def nms (l : List UInt8) : Bool := l.all fun b => decide (33 ≤ b.toNat) && decide (b.toNat ≤ 126) && decide (b.toNat ≠ 47)
theorem nms_iff (l : List UInt8) : nms l = true ↔ ∀ b ∈ l, nok b := by
  unfold nms nok
  rw [List.all_eq_true]
  constructor
  · intro h b hb; have := h b hb; simp at this; exact ⟨this.1.1, this.1.2, this.2⟩
  · intro h b hb; have := h b hb; simp; exact ⟨⟨this.1, this.2.1⟩, this.2.2⟩
def nmB (l : List UInt8) : Bool := decide (1 ≤ l.length) && (decide (l.length ≤ 32) && nms l)
theorem nmB_iff (l : List UInt8) : nmB l = true ↔ nameOk l := by
  unfold nmB nameOk
  rw [Bool.and_eq_true, Bool.and_eq_true, decide_eq_true_iff, decide_eq_true_iff, nms_iff]
theorem nms_take (l : List UInt8) (k : Nat) (hk : k < l.length) (b : UInt8) (hb : l[k]'hk = b) : nms (l.take (k + 1)) = (nms (l.take k) && nms [b]) := by
  rw [List.take_succ_eq_append_getElem hk, hb]
  unfold nms
  rw [List.all_append]
theorem nms_bad (l : List UInt8) (k : Nat) (hk : k < l.length) (b : UInt8) (hb : l[k]'hk = b) (h : nms [b] = false) : nms l = false := by
  rw [Bool.eq_false_iff]
  intro h2
  rw [nms_iff] at h2
  rw [Bool.eq_false_iff] at h
  refine h ((nms_iff _).2 fun c hc => ?_)
  have : c = b := by simpa using hc
  subst this
  exact h2 _ (hb ▸ List.getElem_mem hk)
theorem nms_one (b : UInt8) : nms [b] = (decide (33 ≤ b.toNat) && decide (b.toNat ≤ 126) && decide (b.toNat ≠ 47)) := by unfold nms; simp
set_option maxHeartbeats 1000000 in
set_option maxRecDepth 100000 in
theorem oname_any (l : List UInt8) (w : World) (hl : l.length ≤ 281474976710656) :
    Calls Tryz.prog 61 #[.string (bs l)] w fun e w' => e = .returned (.bool (nmB l)) ∧ w = w' := by
  have hz := bs_size l
  have hat : Hid (∀ k (h1 : k < (bs l).size) (h2 : k < l.length), (bs l)[k]'h1 = l[k]'h2) := fun k h1 h2 => by simp [bs]; rfl
  obtain ⟨sb, hsb⟩ : ∃ sb, sb = bs l := ⟨_, rfl⟩
  rw [← hsb] at hz hat ⊢
  clear hsb
  by_cases h1 : l.length < 1
  · have e : nmB l = false := by unfold nmB; rw [decide_eq_false (by omega)]; rfl
    have t1 : (sb.size : Int) < 1 := by omega
    rw [e]
    clear h1 hz hat e
    go_enter Tryz.func61, Tryz.ntmps61
    go_wp2
    go_ret
    exact ⟨rfl, rfl⟩
  · have t1 : decide ((sb.size : Int) < 1) = false := by simp; omega
    by_cases h2 : 32 < l.length
    · have e : nmB l = false := by unfold nmB; rw [decide_eq_false (p := l.length ≤ 32) (by omega)]; simp
      have t2 : (32 : Int) < (sb.size : Int) := by omega
      rw [e]
      clear h1 h2 hz hat e
      go_enter Tryz.func61, Tryz.ntmps61
      go_wp2
      go_ret
      exact ⟨rfl, rfl⟩
    · have t2 : decide ((32 : Int) < (sb.size : Int)) = false := by simp; omega
      have e : nmB l = nms l := by unfold nmB; rw [decide_eq_true (by omega), decide_eq_true (by omega)]; rfl
      rw [e]
      have HZ := Lib.hid hz
      clear e h1 hz
      go_enter Tryz.func61, Tryz.ntmps61
      go_wp2
      go_loopw [14] (fun i wr => ∃ k : Nat, k ≤ l.length ∧ i = .int .i64 k ∧ Hid (nms (l.take k) = true) ∧ w = wr) (fun i _ => l.length - (intOf i).toNat)
      case atStart => exact ⟨0, by omega, rfl, rfl, rfl⟩
      case round =>
        obtain ⟨k, hk, rfl, hT, rfl⟩ := hrel
        by_cases hlt : k < l.length
        · have dlt : k < sb.size := by rw [HZ.out]; omega
          have hb0 := hat.out k dlt hlt
          obtain ⟨b, hb⟩ : ∃ b, sb[k]'dlt = b := ⟨_, rfl⟩
          have hb1 := Lib.hid (hb0.symm.trans hb)
          clear hb0
          have zk : (0 : Int) ≤ (k : Int) := by omega
          have yk : (k : Int) < (sb.size : Int) := by omega
          by_cases c1 : b.toNat < 33
          · have d1 : (b.toNat : Int) < 33 := by omega
            have e : nms l = false := nms_bad l k hlt b hb1.out (by rw [nms_one, decide_eq_false (by omega)]; rfl)
            have E := Lib.hid e
            clear e c1
            go_wp2
            go_ret
            rw [E.out]
            exact ⟨rfl, rfl⟩
          · have d1 : decide ((b.toNat : Int) < 33) = false := by simp; omega
            by_cases c2 : 126 < b.toNat
            · have d2 : (126 : Int) < (b.toNat : Int) := by omega
              have e : nms l = false := nms_bad l k hlt b hb1.out (by rw [nms_one, decide_eq_false (p := b.toNat ≤ 126) (by omega)]; simp)
              have E := Lib.hid e
              clear e c1 c2
              go_wp2
              go_ret
              rw [E.out]
              exact ⟨rfl, rfl⟩
            · have d2 : decide ((126 : Int) < (b.toNat : Int)) = false := by simp; omega
              by_cases c3 : b.toNat = 47
              · have d3 : ((b.toNat : Int) == 47) = true := by simp; omega
                have e : nms l = false := nms_bad l k hlt b hb1.out (by rw [nms_one, decide_eq_false (p := b.toNat ≠ 47) (by omega)]; simp)
                have E := Lib.hid e
                clear e c1 c2 c3
                go_wp2
                go_ret
                rw [E.out]
                exact ⟨rfl, rfl⟩
              · have d3 : ((b.toNat : Int) == 47) = false := by simp; omega
                have T2 : Hid (nms (l.take (k + 1)) = true) := by
                  show nms (l.take (k + 1)) = true
                  rw [nms_take l k hlt b hb1.out, hT.out, nms_one, decide_eq_true (by omega), decide_eq_true (by omega), decide_eq_true (by omega)]; rfl
                have HK : Hid (k + 1 ≤ l.length) := hlt
                clear c1 c2 c3
                go_wp2
                go_roundw
                case rel => exact ⟨k + 1, HK.out, by go_num, T2, trivial⟩
                case measure => simp [intOf]; omega
        · have ek : k = l.length := by omega
          subst ek
          have e : nms l = true := by rw [← hT.out, List.take_length]
          have E := Lib.hid e
          have yk : (sb.size : Int) ≤ (l.length : Int) := by rw [HZ.out]; omega
          clear e hlt
          go_wp2
          go_ret
          rw [E.out]
          exact ⟨rfl, rfl⟩
set_option maxHeartbeats 1000000 in
set_option maxRecDepth 100000 in
theorem qname_any (l : List UInt8) (w : World) (hl : l.length ≤ 281474976710656) :
    Calls Tryz.prog 55 #[.string (bs l)] w fun e w' => e = .returned (.bool (nmB l)) ∧ w = w' := by
  have hz := bs_size l
  have hat : Hid (∀ k (h1 : k < (bs l).size) (h2 : k < l.length), (bs l)[k]'h1 = l[k]'h2) := fun k h1 h2 => by simp [bs]; rfl
  obtain ⟨sb, hsb⟩ : ∃ sb, sb = bs l := ⟨_, rfl⟩
  rw [← hsb] at hz hat ⊢
  clear hsb
  have HZ := Lib.hid hz
  clear hz
  have bad : Hid (nms l = false → nmB l = false) := fun h => by unfold nmB; rw [h]; simp
  go_enter Tryz.func55, Tryz.ntmps55
  go_wp2
  go_loopw [3] (fun i wr => ∃ k : Nat, k ≤ l.length ∧ i = .int .i64 k ∧ Hid (nms (l.take k) = true) ∧ w = wr) (fun i _ => l.length - (intOf i).toNat)
  case atStart => exact ⟨0, by omega, rfl, rfl, rfl⟩
  case round =>
    obtain ⟨k, hk, rfl, hT, rfl⟩ := hrel
    by_cases hlt : k < l.length
    · have dlt : k < sb.size := by rw [HZ.out]; omega
      have hb0 := hat.out k dlt hlt
      obtain ⟨b, hb⟩ : ∃ b, sb[k]'dlt = b := ⟨_, rfl⟩
      have hb1 := Lib.hid (hb0.symm.trans hb)
      clear hb0
      have zk : (0 : Int) ≤ (k : Int) := by omega
      have yk : (k : Int) < (sb.size : Int) := by omega
      by_cases c1 : b.toNat < 33
      · have d1 : (b.toNat : Int) < 33 := by omega
        have e := bad.out (nms_bad l k hlt b hb1.out (by rw [nms_one, decide_eq_false (by omega)]; rfl))
        have E := Lib.hid e
        clear e c1 bad
        go_wp2
        go_ret
        rw [E.out]
        exact ⟨rfl, rfl⟩
      · have d1 : decide ((b.toNat : Int) < 33) = false := by simp; omega
        by_cases c2 : 126 < b.toNat
        · have d2 : (126 : Int) < (b.toNat : Int) := by omega
          have e := bad.out (nms_bad l k hlt b hb1.out (by rw [nms_one, decide_eq_false (p := b.toNat ≤ 126) (by omega)]; simp))
          have E := Lib.hid e
          clear e c1 c2 bad
          go_wp2
          go_ret
          rw [E.out]
          exact ⟨rfl, rfl⟩
        · have d2 : decide ((126 : Int) < (b.toNat : Int)) = false := by simp; omega
          by_cases c3 : b.toNat = 47
          · have d3 : ((b.toNat : Int) == 47) = true := by simp; omega
            have e := bad.out (nms_bad l k hlt b hb1.out (by rw [nms_one, decide_eq_false (p := b.toNat ≠ 47) (by omega)]; simp))
            have E := Lib.hid e
            clear e c1 c2 c3 bad
            go_wp2
            go_ret
            rw [E.out]
            exact ⟨rfl, rfl⟩
          · have d3 : ((b.toNat : Int) == 47) = false := by simp; omega
            have T2 : Hid (nms (l.take (k + 1)) = true) := by
              show nms (l.take (k + 1)) = true
              rw [nms_take l k hlt b hb1.out, hT.out, nms_one, decide_eq_true (by omega), decide_eq_true (by omega), decide_eq_true (by omega)]; rfl
            have HK : Hid (k + 1 ≤ l.length) := hlt
            clear c1 c2 c3
            go_wp2
            go_roundw
            case rel => exact ⟨k + 1, HK.out, by go_num, T2, trivial⟩
            case measure => simp [intOf]; omega
    · have ek : k = l.length := by omega
      subst ek
      have e : nmB l = (decide (1 ≤ l.length) && decide (l.length ≤ 32)) := by unfold nmB; rw [show nms l = true by rw [← hT.out, List.take_length], Bool.and_true]
      have E := Lib.hid e
      clear e
      have yk : (sb.size : Int) ≤ (l.length : Int) := by rw [HZ.out]; omega
      by_cases h1 : 1 ≤ l.length
      · have t1 : (1 : Int) ≤ (sb.size : Int) := by rw [HZ.out]; omega
        by_cases h2 : l.length ≤ 32
        · have t2 : (sb.size : Int) ≤ 32 := by rw [HZ.out]; omega
          have F := Lib.hid (decide_eq_true h1); have G := Lib.hid (decide_eq_true h2)
          clear h1 h2 hlt
          go_wp2
          go_ret
          rw [E.out, F.out, G.out]
          exact ⟨rfl, rfl⟩
        · have t2 : decide ((sb.size : Int) ≤ 32) = false := by rw [HZ.out]; simp; omega
          have F := Lib.hid (decide_eq_true h1); have G := Lib.hid (decide_eq_false h2)
          clear h1 h2 hlt
          go_wp2
          go_ret
          rw [E.out, F.out, G.out]
          exact ⟨rfl, rfl⟩
      · have t1 : decide ((1 : Int) ≤ (sb.size : Int)) = false := by rw [HZ.out]; simp; omega
        have F := Lib.hid (decide_eq_false h1)
        clear h1 hlt
        go_wp2
        go_ret
        rw [E.out, F.out]
        exact ⟨rfl, rfl⟩
end Go.Proofs.YtlbclfponongbaaGreatDoor
/- The order of names. -/
namespace Go.Proofs.YtlbclfponongbaaGreatDoor
open Go.Op
theorem toList_bs (l : List UInt8) : (bs l).toList = l := by
  rw [Lib.toList_data]; simp [bs]
theorem bl_irrefl : ∀ a : List UInt8, bytesLess a a = false
  | [] => by unfold bytesLess; rfl
  | a :: x => by
    unfold bytesLess
    rw [bl_irrefl x]
    simp [UInt8.lt_irrefl]
theorem bl_cons (a b : UInt8) (x y : List UInt8) : bytesLess (a :: x) (b :: y) = true ↔ a < b ∨ (a = b ∧ bytesLess x y = true) := by
  conv => lhs; unfold bytesLess
  simp
theorem bl_nil (x : List UInt8) : bytesLess x [] = false := by unfold bytesLess; rfl
theorem bl_nil_cons (b : UInt8) (y : List UInt8) : bytesLess [] (b :: y) = true := by unfold bytesLess; rfl
theorem bl_trans : ∀ (a b c : List UInt8), bytesLess a b = true → bytesLess b c = true → bytesLess a c = true
  | _, [], _, h, _ => by rw [bl_nil] at h; cases h
  | _, _ :: _, [], _, h => by rw [bl_nil] at h; cases h
  | [], _ :: _, _ :: _, _, _ => bl_nil_cons _ _
  | a :: x, b :: y, c :: z, h1, h2 => by
    rw [bl_cons] at *
    rcases h1 with h1 | ⟨rfl, h1⟩
    · rcases h2 with h2 | ⟨rfl, h2⟩
      · exact Or.inl (UInt8.lt_trans h1 h2)
      · exact Or.inl h1
    · rcases h2 with h2 | ⟨rfl, h2⟩
      · exact Or.inl h2
      · exact Or.inr ⟨rfl, bl_trans x y z h1 h2⟩
theorem bl_tri : ∀ (a b : List UInt8), bytesLess a b = false → bytesLess b a = false → a = b
  | [], [], _, _ => rfl
  | [], _ :: _, h, _ => by rw [bl_nil_cons] at h; cases h
  | _ :: _, [], _, h => by rw [bl_nil_cons] at h; cases h
  | a :: x, b :: y, h1, h2 => by
    have n1 : ¬ (a < b ∨ (a = b ∧ bytesLess x y = true)) := fun h => by rw [(bl_cons a b x y).2 h] at h1; cases h1
    have n2 : ¬ (b < a ∨ (b = a ∧ bytesLess y x = true)) := fun h => by rw [(bl_cons b a y x).2 h] at h2; cases h2
    have e : a = b := by
      rcases UInt8.lt_or_eq_of_le (UInt8.not_lt.1 fun h => n1 (Or.inl h)) with h | h
      · exact absurd (Or.inl h) n2
      · exact h.symm
    subst e
    have e2 : x = y := bl_tri x y (by cases c : bytesLess x y; rfl; exact absurd (Or.inr ⟨rfl, c⟩) n1) (by cases c : bytesLess y x; rfl; exact absurd (Or.inr ⟨rfl, c⟩) n2)
    rw [e2]
theorem bl_asymm (a b : List UInt8) (h : bytesLess a b = true) : bytesLess b a = false := by
  cases c : bytesLess b a
  · rfl
  · have := bl_trans a b a h c
    rw [bl_irrefl] at this
    cases this
/- what strings.Compare tells -/
theorem cmp_less : ∀ (a b : List UInt8), decide (Lib.compareBytes a b < 0) = bytesLess a b
  | [], [] => by rw [bl_nil]; rfl
  | [], _ :: _ => by rw [bl_nil_cons]; rfl
  | _ :: _, [] => by rw [bl_nil]; rfl
  | a :: x, b :: y => by
    have ih := cmp_less x y
    apply Bool.eq_iff_iff.2
    rw [bl_cons]
    unfold Lib.compareBytes
    by_cases h1 : a < b
    · rw [if_pos h1]; simp [h1]
    · rw [if_neg h1]
      by_cases h2 : b < a
      · rw [if_pos h2]
        have : ¬ a = b := fun e => by subst e; exact UInt8.lt_irrefl _ h2
        simp [h1, this]
      · rw [if_neg h2, ih]
        have e : a = b := by
          rcases UInt8.lt_or_eq_of_le (UInt8.not_lt.1 h1) with h | h
          · exact absurd h h2
          · exact h.symm
        simp [e, h1, UInt8.lt_irrefl]
end Go.Proofs.YtlbclfponongbaaGreatDoor
