import Derived.Test.YtekeaoolodmdaaaMX7m
/- The document's answer: Like. -/
namespace Go.Proofs.Ytekeaoolodmdaaa.Mt
set_option maxRecDepth 100000
open Go.RowKit
set_option maxHeartbeats 2000000 in
theorem like_any (a b : ByteArray) (i k : Nat) (w : World) (ha : a.size ≤ 1000000) (hb : b.size ≤ 1000000) (hi : i ≤ 1000000) (hk : k ≤ 1000000) :
    Calls Try.prog 54 #[.string a, .int .i64 (i : Int), .string b, .int .i64 (k : Int)] w fun e w' => e = .returned (.int .i64 ((lkF (sAt a) (sAt b) i k (min (a.size - i) (b.size - k)) : Nat) : Int)) ∧ Below w.heap.size w w' := by
  obtain ⟨c, hc⟩ : ∃ c, c = min (a.size - i) (b.size - k) := ⟨_, rfl⟩
  rw [← hc]
  have HC : Hid (c = min (a.size - i) (b.size - k)) := hc
  have HS := Lib.hid (show a.size ≤ 1000000 ∧ b.size ≤ 1000000 ∧ i ≤ 1000000 ∧ k ≤ 1000000 from ⟨ha, hb, hi, hk⟩)
  have IX : Hid (∀ q : Nat, i + q < a.size → ∀ w : World, (Instr.index 9 (.string a) (.int .i64 ((i : Int) + (q : Int)))).run Try.prog w = .ok (.int .u8 ((sAt a (i + q)).toNat : Int)) w) := fun q hq w => by
    rw [← Int.natCast_add]; exact idx_str a (i + q) hq w
  have IY : Hid (∀ q : Nat, k + q < b.size → ∀ w : World, (Instr.index 9 (.string b) (.int .i64 ((k : Int) + (q : Int)))).run Try.prog w = .ok (.int .u8 ((sAt b (k + q)).toNat : Int)) w) := fun q hq w => by
    rw [← Int.natCast_add]; exact idx_str b (k + q) hq w
  obtain ⟨R, hR⟩ : ∃ R, R = lkF (sAt a) (sAt b) i k c := ⟨_, rfl⟩
  rw [← hR]
  have HR : Hid (∀ r, r ≤ c → (∀ j, j < r → sAt a (i + j) = sAt b (k + j)) → (r = c ∨ sAt a (i + r) ≠ sAt b (k + r)) → R = r) := fun r h1 h2 h3 => by rw [hR]; exact lkF_is h1 h2 h3
  clear hc hR ha hb hi hk
  go_enter Try.func54, Try.ntmps54
  go_wp2
  go_loopw [9] (fun n wr => ∃ q : Nat, n = .int .i64 (q : Int) ∧ q ≤ c ∧ Hid (∀ j, j < q → sAt a (i + j) = sAt b (k + j)) ∧ Hid (Below w.heap.size w wr)) (fun n _ => c - (intOf n).toNat)
  case atStart => exact ⟨0, rfl, Nat.zero_le _, fun j hj => absurd hj (Nat.not_lt_zero j), Below.refl _ _⟩
  case round =>
    obtain ⟨q, rfl, hq, hE, hL⟩ := hrel
    have z := HS.out
    have zc := HC.out
    have w1 : IntKind.i64.wrap ((i : Int) + (q : Int)) = (i : Int) + (q : Int) := IntWalk.i64_in _ (by omega)
    have w2 : IntKind.i64.wrap ((k : Int) + (q : Int)) = (k : Int) + (q : Int) := IntWalk.i64_in _ (by omega)
    have w3 : IntKind.i64.wrap ((q : Int) + 1) = (q : Int) + 1 := IntWalk.i64_in _ (by omega)
    by_cases f1 : i + q < a.size
    · have d1 : decide ((i : Int) + (q : Int) < (a.size : Int)) = true := decide_eq_true (by omega)
      by_cases f2 : k + q < b.size
      · have d2 : decide ((k : Int) + (q : Int) < (b.size : Int)) = true := decide_eq_true (by omega)
        have i1 := IX.out q f1
        have i2 := IY.out q f2
        obtain ⟨x, hx⟩ : ∃ x, x = (sAt a (i + q)).toNat := ⟨_, rfl⟩
        obtain ⟨y, hy⟩ : ∃ y, y = (sAt b (k + q)).toNat := ⟨_, rfl⟩
        rw [← hx] at i1
        rw [← hy] at i2
        by_cases he : sAt a (i + q) = sAt b (k + q)
        · have t : y = x := by rw [hx, hy, he]
          rw [t] at i2
          have HEQ := Lib.hid he
          have hlt : q < c := by omega
          clear t hx hy he z zc f1 f2 hq
          go_upto_region 2 with fail
          go_quiet (fail)
          have L : Hid (Below w.heap.size w (wr.drewN nq)) := below_drewN hL.out nq
          go_wp2
          go_roundw
          case rel =>
            refine ⟨q + 1, by go_num, by omega, fun j hj => ?_, L⟩
            by_cases c : j < q
            · exact hE.out j c
            · have e : j = q := by omega
              rw [e]
              exact HEQ.out
          case measure => simp [intOf]; omega
        · have t2 : ¬ (x = y) := by intro h; rw [hx, hy] at h; exact he (UInt8.toNat_inj.1 h)
          have t3 : ((x : Int) == (y : Int)) = false := by simp; omega
          have RS := Lib.hid (HR.out q hq hE.out (.inr he))
          clear hx hy he z zc f1 f2 hq t2 w3
          go_upto_region 2 with fail
          go_quiet (fail)
          have L : Hid (Below w.heap.size w (wr.drewN nq)) := below_drewN hL.out nq
          go_wp2
          go_ret
          exact ⟨by rw [RS.out]; rfl, L.out⟩
      · have d2 : decide ((k : Int) + (q : Int) < (b.size : Int)) = false := decide_eq_false (by omega)
        have RS := Lib.hid (HR.out q hq hE.out (.inl (by omega)))
        clear z zc f1 f2 hq w3
        go_upto_region 2 with fail
        go_quiet (fail)
        have L : Hid (Below w.heap.size w (wr.drewN nq)) := below_drewN hL.out nq
        go_wp2
        go_ret
        exact ⟨by rw [RS.out]; rfl, L.out⟩
    · have d1 : decide ((i : Int) + (q : Int) < (a.size : Int)) = false := decide_eq_false (by omega)
      have RS := Lib.hid (HR.out q hq hE.out (.inl (by omega)))
      clear z zc f1 hq w3
      go_upto_region 2 with fail
      go_quiet (fail)
      have L : Hid (Below w.heap.size w (wr.drewN nq)) := below_drewN hL.out nq
      go_wp2
      go_ret
      exact ⟨by rw [RS.out]; rfl, L.out⟩
end Go.Proofs.Ytekeaoolodmdaaa.Mt
