import Derived.Test.YtdfoejgkjfklcaaMXw
import Derived.Deep.Cut
import Derived.Deep.QuietTactic
import Derived.BigQuiet
/- How many bytes two texts both begin with. -/
namespace Go.Proofs.Ytdfoejgkjfklcaa.Mt
set_option maxRecDepth 100000
open Go.RowKit
set_option maxHeartbeats 2000000 in
theorem common_any (a b : ByteArray) (f g : Nat → UInt8) (i k : Nat) (w : World) (ha : a.size ≤ 1000000) (hb : b.size ≤ 1000000) (hf : ∀ j, j < a.size → sAt a j = f (i + j)) (hg : ∀ j, j < b.size → sAt b j = g (k + j)) :
    Calls Try.prog 40 #[.string a, .string b] w fun e w' => e = .returned (.int .i64 ((lkF f g i k (min a.size b.size) : Nat) : Int)) ∧ Below w.heap.size w w' := by
  have IX : Hid (∀ j : Nat, j < a.size → ∀ w : World, (Instr.index 9 (.string a) (.int .i64 (j : Int))).run Try.prog w = .ok (.int .u8 ((f (i + j)).toNat : Int)) w) := fun j hj w => by
    rw [← hf j hj]; exact idx_str a j hj w
  have IY : Hid (∀ j : Nat, j < b.size → ∀ w : World, (Instr.index 9 (.string b) (.int .i64 (j : Int))).run Try.prog w = .ok (.int .u8 ((g (k + j)).toNat : Int)) w) := fun j hj w => by
    rw [← hg j hj]; exact idx_str b j hj w
  have HA := Lib.hid (show a.size ≤ 1000000 from ha)
  have HB := Lib.hid (show b.size ≤ 1000000 from hb)
  by_cases hc : b.size < a.size
  · have en : min a.size b.size = b.size := by omega
    rw [en]
    have HE : Hid (b.size ≤ a.size ∧ b.size ≤ b.size) := by show _ ∧ _; omega
    clear hf hg ha hb en
    go_enter Try.func40, Try.ntmps40
    go_wp2
    clear hc
    go_loopw [13] (fun q wr => ∃ q' : Nat, q = .int .i64 (q' : Int) ∧ q' ≤ b.size ∧ Hid (∀ j, j < q' → f (i + j) = g (k + j)) ∧ Hid (Below w.heap.size w wr)) (fun q _ => b.size - (intOf q).toNat)
    case atStart => exact ⟨0, rfl, Nat.zero_le _, fun j hj => absurd hj (Nat.not_lt_zero j), Below.refl _ _⟩
    case round =>
      obtain ⟨q, rfl, hq, hE, hL⟩ := hrel
      by_cases hlt : q < b.size
      · have z := HE.out
        have i1 := IX.out q (by omega)
        have i2 := IY.out q (by omega)
        have yk : (q : Int) < (b.size : Int) := by omega
        have w1 : IntKind.i64.wrap ((q : Int) + 1) = (q : Int) + 1 := IntWalk.i64_in _ (by have := HA.out; have := HB.out; omega)
        clear z
        obtain ⟨x, hx⟩ : ∃ x, x = (f (i + q)).toNat := ⟨_, rfl⟩
        obtain ⟨y, hy⟩ : ∃ y, y = (g (k + q)).toNat := ⟨_, rfl⟩
        rw [← hx] at i1
        rw [← hy] at i2
        by_cases he : f (i + q) = g (k + q)
        · have t : y = x := by rw [hx, hy, he]
          rw [t] at i2
          have HEQ := Lib.hid he
          clear t hx hy he
          go_upto_region 5 with fail
          go_quiet (fail)
          have L : Hid (Below w.heap.size w (wr.drewN nq)) := below_drewN hL.out nq
          go_wp2
          go_roundw
          case rel =>
            refine ⟨q + 1, by go_num, by omega, fun j hj => ?_, L⟩
            by_cases c : j < q
            · exact hE.out j c
            · have e : j = q := by omega
              rw [e]
              exact HEQ.out
          case measure => simp [intOf]; omega
        · have t2 : ¬ (x = y) := by intro h; rw [hx, hy] at h; exact he (UInt8.toNat_inj.1 h)
          have t3 : ((x : Int) != (y : Int)) = true := by simp; omega
          have RS : lkF f g i k b.size = q := lkF_is (by omega) hE.out (.inr he)
          clear hx hy he
          go_upto_region 5 with fail
          go_quiet (fail)
          have L : Hid (Below w.heap.size w (wr.drewN nq)) := below_drewN hL.out nq
          go_wp2
          go_ret
          exact ⟨by rw [RS]; rfl, L.out⟩
      · have e : q = b.size := by omega
        subst e
        have RS : lkF f g i k b.size = b.size := lkF_is (Nat.le_refl _) hE.out (.inl rfl)
        go_wp2
        go_ret
        exact ⟨by rw [RS]; rfl, hL.out⟩
  · have en : min a.size b.size = a.size := by omega
    rw [en]
    have HE : Hid (a.size ≤ a.size ∧ a.size ≤ b.size) := by show _ ∧ _; omega
    clear hf hg ha hb en
    go_enter Try.func40, Try.ntmps40
    go_wp2
    clear hc
    go_loopw [13] (fun q wr => ∃ q' : Nat, q = .int .i64 (q' : Int) ∧ q' ≤ a.size ∧ Hid (∀ j, j < q' → f (i + j) = g (k + j)) ∧ Hid (Below w.heap.size w wr)) (fun q _ => a.size - (intOf q).toNat)
    case atStart => exact ⟨0, rfl, Nat.zero_le _, fun j hj => absurd hj (Nat.not_lt_zero j), Below.refl _ _⟩
    case round =>
      obtain ⟨q, rfl, hq, hE, hL⟩ := hrel
      by_cases hlt : q < a.size
      · have z := HE.out
        have i1 := IX.out q (by omega)
        have i2 := IY.out q (by omega)
        have yk : (q : Int) < (a.size : Int) := by omega
        have w1 : IntKind.i64.wrap ((q : Int) + 1) = (q : Int) + 1 := IntWalk.i64_in _ (by have := HA.out; have := HB.out; omega)
        clear z
        obtain ⟨x, hx⟩ : ∃ x, x = (f (i + q)).toNat := ⟨_, rfl⟩
        obtain ⟨y, hy⟩ : ∃ y, y = (g (k + q)).toNat := ⟨_, rfl⟩
        rw [← hx] at i1
        rw [← hy] at i2
        by_cases he : f (i + q) = g (k + q)
        · have t : y = x := by rw [hx, hy, he]
          rw [t] at i2
          have HEQ := Lib.hid he
          clear t hx hy he
          go_upto_region 5 with fail
          go_quiet (fail)
          have L : Hid (Below w.heap.size w (wr.drewN nq)) := below_drewN hL.out nq
          go_wp2
          go_roundw
          case rel =>
            refine ⟨q + 1, by go_num, by omega, fun j hj => ?_, L⟩
            by_cases c : j < q
            · exact hE.out j c
            · have e : j = q := by omega
              rw [e]
              exact HEQ.out
          case measure => simp [intOf]; omega
        · have t2 : ¬ (x = y) := by intro h; rw [hx, hy] at h; exact he (UInt8.toNat_inj.1 h)
          have t3 : ((x : Int) != (y : Int)) = true := by simp; omega
          have RS : lkF f g i k a.size = q := lkF_is (by omega) hE.out (.inr he)
          clear hx hy he
          go_upto_region 5 with fail
          go_quiet (fail)
          have L : Hid (Below w.heap.size w (wr.drewN nq)) := below_drewN hL.out nq
          go_wp2
          go_ret
          exact ⟨by rw [RS]; rfl, L.out⟩
      · have e : q = a.size := by omega
        subst e
        have RS : lkF f g i k a.size = a.size := lkF_is (Nat.le_refl _) hE.out (.inl rfl)
        go_wp2
        go_ret
        exact ⟨by rw [RS]; rfl, hL.out⟩
end Go.Proofs.Ytdfoejgkjfklcaa.Mt
