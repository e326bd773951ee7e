import Derived.Test.YtekeaoolodmdaaaEQ2
/- The reference's reader: a number, the walk. -/
namespace Go.Proofs.Ytekeaoolodmdaaa
open Go.RowKit Classical
theorem q_keep {w wr : World} {r o : Nat} (v : Value) (h : Keep (fun k => k ≠ r) w wr) : Keep (fun k => k ≠ r) w (wr.setCell ⟨r, o, none⟩ v) := h.setCell (fun h => h rfl) v
theorem i64_small {n : Nat} (h : n ≤ 4398046511104) : IntKind.i64.wrap (n : Int) = (n : Int) ∧ wrap64 (n : Int) = (n : Int) := by
  have e : wrap64 (n : Int) = (n : Int) := IntWalk.wrap64_in _ ⟨by omega, by omega⟩
  exact ⟨(IntWalk.i64_left _).trans e, e⟩
/- the loop's sums, as letters -/
theorem num_facts {acc one b T : Nat} (hone : one = T) (hacc : acc < T) (hT : T * 128 ≤ 4398046511104) (hb : b < 256) : ∃ R0 M A O : Nat, A = acc + b % 128 * T ∧ O = T * 128 ∧
    (IntKind.i64.wrap (b : Int) = (b : Int) ∧ wrap64 (b : Int) = (b : Int)) ∧ ((b : Int).tmod 128 = (R0 : Int) ∧ (b : Int) % 128 = (R0 : Int)) ∧ (R0 : Int) * (one : Int) = (M : Int) ∧ (acc : Int) + (M : Int) = (A : Int) ∧ (one : Int) * 128 = (O : Int) ∧
    (IntKind.i64.wrap (R0 : Int) = (R0 : Int) ∧ wrap64 (R0 : Int) = (R0 : Int)) ∧ (IntKind.i64.wrap (M : Int) = (M : Int) ∧ wrap64 (M : Int) = (M : Int)) ∧ (IntKind.i64.wrap (A : Int) = (A : Int) ∧ wrap64 (A : Int) = (A : Int)) ∧ (IntKind.i64.wrap (O : Int) = (O : Int) ∧ wrap64 (O : Int) = (O : Int)) := by
  have hM : b % 128 * T ≤ 127 * T := Nat.mul_le_mul_right _ (by omega)
  refine ⟨b % 128, b % 128 * T, acc + b % 128 * T, T * 128, rfl, rfl, i64_small (by omega), ⟨by rw [Int.tmod_eq_emod_of_nonneg (by omega)]; omega, by omega⟩, by rw [hone]; simp, by simp, by rw [hone]; simp, i64_small (by omega), i64_small (by omega), i64_small (by omega), i64_small hT⟩
set_option maxHeartbeats 2000000 in
set_option maxRecDepth 100000 in
theorem qnum_any {w : World} {r : Nat} {l p e} (most : Int) (h : Rq w r l p e) (hp : p ≤ l.length) (hl : l.length ≤ 281474976710656) :
    Calls Try.prog 41 #[.pointer (some ⟨r, 0, none⟩), .int .i64 most] w fun v w' => v = .returned (.int .i64 (rNum most l p e).1) ∧ Rq w' r l (rNum most l p e).2.1 (rNum most l p e).2.2 ∧ Keep (fun k => k ≠ r) w w' := by
  by_cases he : e = 0
  · subst he
    obtain ⟨R, hR⟩ : ∃ R, R = rNum most l p 0 := ⟨_, rfl⟩
    rw [← hR]
    have F1 : Hid (∀ er, rd most (l.drop p) 0 0 = (0, 0, er) → er ≠ 0 → R = (0, p, er)) := fun er h1 h2 => by rw [hR]; unfold rNum; rw [if_neg (by simp), h1, if_pos h2]
    have F2 : Hid (∀ n s, rd most (l.drop p) 0 0 = (n, s, 0) → R = (n, p + s, 0)) := fun n s h1 => by rw [hR]; unfold rNum; rw [if_neg (by simp), h1, if_neg (by simp)]
    obtain ⟨c0, c1, c2, f1, f2⟩ := h.cells
    have Q0 : Hid (Qn most l p 0 0 ∧ p + 0 ≤ l.length) := ⟨Qn.start most l p, hp⟩
    have K0 : Hid (Rq w r l p 0 ∧ Keep (fun k => k ≠ r) w w) := ⟨h, Keep.refl _ _⟩
    have hz := bs_size l
    have hat : Hid (∀ k (h1 : k < (bs l).size) (h2 : k < l.length), (bs l)[k]'h1 = l[k]'h2) := fun k h1 h2 => by simp [bs]; rfl
    have L0 := Lib.hid hl
    obtain ⟨sb, hsb⟩ : ∃ sb, sb = bs l := ⟨_, rfl⟩
    rw [← hsb] at c0 hz hat
    have SB := Lib.hid hsb
    have HZ := Lib.hid hz
    clear hsb
    clear h hR hp hl hz
    go_enter Try.func41, Try.ntmps41
    go_wp2
    go_loopw [5, 6, 7] (fun u v i wr => ∃ (k acc one : Nat), k ≤ 6 ∧ i = .int .i64 k ∧ u = .int .i64 acc ∧ v = .int .i64 one ∧ Hid (one = 128 ^ k) ∧ Hid (Qn most l p k acc ∧ p + k ≤ l.length) ∧ Hid (Rq wr r l p 0 ∧ Keep (fun k => k ≠ r) w wr)) (fun _ _ i _ => 6 - (intOf i).toNat)
    case atStart => exact ⟨0, 0, 1, by decide, rfl, rfl, rfl, (show (1 : Nat) = 128 ^ 0 from rfl), Q0, K0⟩
    case round =>
      obtain ⟨k, acc, one, hk, rfl, rfl, rfl, hone, hQ, hW⟩ := hrel
      obtain ⟨d0, d1, d2, g1, g2⟩ := hW.out.1.cells
      rw [← SB.out] at d0
      have hz := HZ.out
      have HR : Hid (∀ q, Rq (wr.drewN q) r l p 0) := fun q => hW.out.1.keep ((Keep.refl (fun _ => True) wr).drewN q) trivial
      have HK : Hid (∀ q, Keep (fun k => k ≠ r) w (wr.drewN q)) := fun q => hW.out.2.drewN q
      by_cases hlt : k < 6
      · have yk : (k : Int) < 6 := by omega
        have zk : (0 : Int) ≤ (k : Int) := by omega
        by_cases hq : l.length ≤ p + k
        · have E := Lib.hid (F1.out 3 (hQ.out.1.short hlt hq) (by decide))
          have sz : ((sb.size : Int)) ≤ (p : Int) + (k : Int) := by omega
          have w1 : IntKind.i64.wrap ((p : Int) + (k : Int)) = (p : Int) + (k : Int) := IntWalk.i64_in _ (by have := L0.out; have := hQ.out.2; omega)
          clear hlt hq hz
          go_wp2
          go_quiet (fail)
          go_wp2
          go_ret
          rw [E.out]
          exact ⟨rfl, (HR.out _).setErr 3, q_keep _ (HK.out _)⟩
        · have hq2 : p + k < l.length := by omega
          obtain ⟨b, hb⟩ : ∃ b : Nat, b = (l[p + k]).toNat := ⟨_, rfl⟩
          obtain ⟨q, hqq⟩ : ∃ q : Nat, q = p + k := ⟨_, rfl⟩
          have b256 : b < 256 := by rw [hb]; exact UInt8.toNat_lt _
          obtain ⟨R0, M, A, O, hA, hO, ⟨w0, w0'⟩, ⟨e1, e2⟩, e3, e4, e5, ⟨w5, w5'⟩, ⟨w2, w2'⟩, ⟨w3, w3'⟩, w4, w4'⟩ := num_facts hone.out hQ.out.1.2 (by rw [← Nat.pow_succ]; exact pow_le6 hlt) b256
          have HA : Hid (∀ h : p + k < l.length, A = acc + (l[p + k]'h).toNat % 128 * 128 ^ k) := fun h => by rw [hA, hb]
          have HO : Hid (O = 128 ^ (k + 1)) := by show _ = _; rw [hO, Nat.pow_succ]
          clear hA hO
          have w1 : IntKind.i64.wrap ((p : Int) + (k : Int)) = (q : Int) := by rw [hqq, Int.natCast_add]; exact IntWalk.i64_in _ (by have := L0.out; omega)
          have sz : (q : Int) < (sb.size : Int) := by omega
          have ix : ∀ W : World, (Instr.index 9 (.string sb) (.int .i64 (q : Int))).run Try.prog W = .ok (.int .u8 (b : Int)) W := fun W => by
            have hai : (asIntOf (.int .i64 (q : Int))).run Try.prog W = .ok (.i64, (q : Int)) W := rfl
            have hq3 : q < sb.size := by omega
            have hv : sb[q]'hq3 = l[p + k] := by subst hqq; exact hat.out (p + k) hq3 hq2
            have hu : Try.prog.underlying 9 = some .string := by kernel_rfl
            simp [Instr.index, run_underlying hu, hai, hq3, hv, hb]
          have HLT := Lib.hid hlt
          have HQ2 := Lib.hid hq2
          have HB : Hid (∀ h : p + k < l.length, b = (l[p + k]'h).toNat) := fun h => hb
          have HQQ := Lib.hid hqq
          clear hb hqq hq hz hlt hq2 b256
          go_wp2
          go_quiet (fail)
          go_wp2
          go_quiet (fail)
          go_upto_region 13 with (fail)
          have W2 : Hid (∀ q, Rq (wr.drewN q) r l p 0 ∧ Keep (fun k => k ≠ r) w (wr.drewN q)) := fun q => ⟨HR.out q, HK.out q⟩
          clear hW HR HK c0 c1 c2 f1 f2 ix e1 e2 e3 e4 e5 w2 w2' w3 w3' w4 w4' w5 w5' w0 w0' hat
          by_cases h128 : 128 ≤ b
          · have t1 : (128 : Int) ≤ (b : Int) := by omega
            have Q2 : Hid (Qn most l p (k + 1) A ∧ p + (k + 1) ≤ l.length) := ⟨by rw [HA.out HQ2.out]; exact hQ.out.1.next HLT.out HQ2.out (by rw [← HB.out HQ2.out]; exact h128), by have := HQ2.out; omega⟩
            have w6 : IntKind.i64.wrap ((k : Int) + 1) = (k : Int) + 1 := IntWalk.i64_in _ (by omega)
            clear h128
            go_wp2
            go_roundw
            case rel => exact ⟨k + 1, A, O, HLT.out, by go_num, rfl, rfl, HO, Q2, W2.out _⟩
            case measure => simp [intOf]; have := HLT.out; omega
          · have t1 : (b : Int) < 128 := by omega
            have n1 : ¬ 128 ≤ (l[p + k]'HQ2.out).toNat := by rw [← HB.out HQ2.out]; exact h128
            by_cases h0 : b = 0 ∧ 0 < k
            · have E := Lib.hid (F1.out 2 (hQ.out.1.zero HLT.out HQ2.out (by rw [← HB.out HQ2.out]; exact h0.1) h0.2) (by decide))
              obtain ⟨b0, k0⟩ := h0
              have t3 : (0 : Int) < (k : Int) := by omega
              subst b0
              clear n1 h128 k0
              go_wp2
              go_ret
              rw [E.out]
              exact ⟨rfl, Rq.setErr (W2.out _).1 2, q_keep _ (W2.out _).2⟩
            · have n0 : ¬ ((l[p + k]'HQ2.out).toNat = 0 ∧ 0 < k) := by rw [← HB.out HQ2.out]; exact h0
              have ways : ((b : Int) == 0) = false ∨ k = 0 := by
                by_cases c : b = 0
                · right; omega
                · left; simp; omega
              clear h0 h128
              by_cases hg : 1099511627775 < A ∨ most < (A : Int)
              · have E := Lib.hid (F1.out 4 (hQ.out.1.great HLT.out HQ2.out n1 n0 (by rw [← HA.out HQ2.out]; exact hg)) (by decide))
                have ways2 : decide ((1099511627775 : Int) < (A : Int)) = true ∨ (decide ((1099511627775 : Int) < (A : Int)) = false ∧ decide (most < (A : Int)) = true) := by
                  by_cases c : 1099511627775 < A
                  · left; simp; omega
                  · right; refine ⟨by simp; omega, ?_⟩
                    rcases hg with h | h
                    · exact absurd h c
                    · simp; exact h
                clear hg n1 n0
                go_upto_region 14 with (fail)
                rcases ways with t2 | rfl
                all_goals rcases ways2 with t3 | ⟨t3, t4⟩
                all_goals go_wp2
                all_goals go_ret
                all_goals rw [E.out]
                all_goals exact ⟨rfl, Rq.setErr (W2.out _).1 4, q_keep _ (W2.out _).2⟩
              · have E : Hid (R = (A, p + (k + 1), 0)) := by
                  show _ = _
                  rw [F2.out _ _ (hQ.out.1.good HLT.out HQ2.out n1 n0 (by rw [← HA.out HQ2.out]; exact hg)), HA.out HQ2.out]
                have t3 : decide ((1099511627775 : Int) < (A : Int)) = false := by simp; omega
                have t4 : decide (most < (A : Int)) = false := by simp; omega
                have w6 : IntKind.i64.wrap ((q : Int) + 1) = ((p + (k + 1) : Nat) : Int) := by rw [show (q : Int) + 1 = ((p + (k + 1) : Nat) : Int) by have := HQQ.out; omega]; exact IntWalk.i64_in _ (by have := L0.out; have := HQ2.out; omega)
                have w6' : wrap64 ((q : Int) + 1) = ((p + (k + 1) : Nat) : Int) := (IntWalk.i64_left _).symm.trans w6
                clear hg n1 n0
                go_upto_region 14 with (fail)
                rcases ways with t2 | rfl
                · go_wp2
                  go_ret
                  rw [E.out]
                  exact ⟨rfl, Rq.setAt (W2.out _).1 _, q_keep _ (W2.out _).2⟩
                · have b8 := L0.out
                  have b9 := HQ2.out
                  have w8 : wrap64 (p : Int) = (p : Int) := IntWalk.wrap64_in _ ⟨by omega, by omega⟩
                  have w9 : wrap64 ((p : Int) + 1) = ((p + (0 + 1) : Nat) : Int) := by rw [show (p : Int) + 1 = ((p + (0 + 1) : Nat) : Int) by omega]; exact IntWalk.wrap64_in _ ⟨by omega, by omega⟩
                  clear b8 b9
                  go_wp2
                  all_goals go_ret
                  all_goals rw [E.out]
                  all_goals exact ⟨rfl, Rq.setAt (W2.out _).1 _, q_keep _ (W2.out _).2⟩
      · have ek : k = 6 := by omega
        subst ek
        have E := Lib.hid (F1.out 4 (hQ.out.1.six) (by decide))
        clear hlt hk
        go_wp2
        go_ret
        rw [E.out]
        exact ⟨rfl, hW.out.1.setErr 4, q_keep _ hW.out.2⟩
  · have hr : rNum most l p e = (0, p, e) := by unfold rNum; rw [if_pos he]
    have HR := Lib.hid h
    obtain ⟨-, -, c2, -, -⟩ := h.cells
    have te : (e != 0) = true := by simpa using he
    rw [hr]
    clear hr h
    go_enter Try.func41, Try.ntmps41
    go_wp2
    go_ret
    exact ⟨rfl, HR.out, Keep.refl _ _⟩
end Go.Proofs.Ytekeaoolodmdaaa
