import Derived.Test.YtekeaoolodmdaaaHR
/- The texts of what is packed are those that were handed in. -/
namespace Go.Proofs.Ytekeaoolodmdaaa
set_option maxRecDepth 100000
open Go.RowKit
set_option maxHeartbeats 4000000 in
theorem chainback_any {T : List (List UInt8)} {Bs : List Int} {vt vb : Value} {w : World} (hT : RowS w vt T) (hB : RowI w vb Bs) (_hb : ∀ x ∈ Bs, -9223372036854775808 ≤ x ∧ x ≤ 9223372036854775807) (_h1 : T.length ≤ 9223372036854775807) (_h2 : Bs.length ≤ 9223372036854775807) :
    Calls Try.prog 6 #[vt, vb] w fun e w' => e = .returned (.bool true) ∧ Below w.heap.size w w' := by
  have CA : Hid (∀ W, _) := Lib.hid (fun W => alive9_any W)
  have CG : Hid (∀ W, RowS W vt T → RowI W vb Bs → _) := Lib.hid (fun W h k => many9_any (w := W) h k)
  have HT := Lib.hid hT
  have HB := Lib.hid hB
  by_cases hg : manyB T Bs.length = true
  · rw [hg] at CG
    clear hg _hb _h1 _h2 hT hB
    go_enter Try.func6, Try.ntmps6
    go_wp2_with fail
    refine (CA.out _).mono ?_
    rintro e w1 ⟨rfl, B1⟩
    have L1 := Lib.hid B1
    have R1 := Lib.hid (HT.out.below B1)
    have Q1 := Lib.hid (HB.out.below B1)
    clear B1
    go_wp2_with fail
    refine (CG.out _ R1.out Q1.out).mono ?_
    rintro e w2 ⟨rfl, B2⟩
    have L2 := Lib.hid (L1.out.trans (B2.mono L1.out.size))
    clear B2
    go_wp2_with fail
    refine (CA.out _).mono ?_
    rintro e w3 ⟨rfl, B3⟩
    have L3 := Lib.hid (L2.out.trans (B3.mono L2.out.size))
    clear B3
    go_wp2
    go_ret
    exact ⟨rfl, L3.out⟩
  · have hg' : manyB T Bs.length = false := by simpa using hg
    rw [hg'] at CG
    obtain ⟨h40, h210, h300⟩ := manyB_no hg'
    have CP : Hid (∀ W, RowS W vt T → RowI W vb Bs → _) := Lib.hid (fun W h k => pack_any (w := W) h k (by omega))
    by_cases hl : Bs.length = T.length
    · have hT4 : ∀ x ∈ T, x.length ≤ 4099 := fun x hx => by have := h300 x hx; omega
      have hPR : packR T Bs = (packL T Bs T.length, 0) := by
        unfold packR
        have hf : T.any (fun x => decide (4099 < x.length)) = false := by
          rw [List.any_eq_false]
          intro x hx
          have := h300 x hx
          simp
          omega
        rw [if_neg (by omega), hf, if_neg (by decide)]
      rw [hPR] at CP
      dsimp only at CP
      have hPI := packL_PI (Bs := Bs) hT4 (by omega) T.length (Nat.le_refl _)
      have hLL := packL_len T Bs T.length
      obtain ⟨l, hl2⟩ : ∃ l, l = packL T Bs T.length := ⟨_, rfl⟩
      rw [← hl2] at CP hPI hLL
      have hall := hPI.all (by omega) hLL
      have htx : ∀ x ∈ l, x.t.length ≤ 1000000 := fun x hx => by
        have key : ∀ i, i ≤ T.length → ∀ x ∈ packL T Bs i, x.t.length ≤ 4099 := by
          intro i
          induction i with
          | zero => intro _ x hx; simp [packL] at hx
          | succ i ih =>
            intro hi x hx
            rw [packL, List.mem_append, List.mem_singleton] at hx
            rcases hx with hx | rfl
            · exact ih (by omega) x hx
            · have hs := hT4 _ (getD_mem T [] i (by omega))
              unfold packP dpart
              split
              · rename_i c
                show (dBy T (Bs.getD i 0) (T.getD i [])).length ≤ 4099
                omega
              · exact hs
        rw [hl2] at hx
        have := key T.length (Nat.le_refl _) x hx
        omega
      have CB : Hid (∀ W u, RowP W u l → Calls Try.prog 16 #[u] W fun e w' => ∃ a, e = .returned (.tuple #[a, .int .i64 0]) ∧ OwnS w' W.heap.size a T ∧ Below W.heap.size W w') := fun W u h => by
        have := all_any9 h (by omega) htx
        rw [hall] at this
        exact this
      have CD : Hid (∀ W u (i : Nat), RowP W u l → i < l.length → ∃ n : Nat, n ≤ 4 ∧ n ≤ i ∧ Calls Try.prog 10 #[u, .int .i64 (i : Int)] W fun e w' => e = .returned (.tuple #[.int .i64 (n : Int), .int .i64 0]) ∧ Below W.heap.size W w') := fun W u i h hi => by
        obtain ⟨n, e, h4, hk⟩ := hPI.depth (by omega) hi
        have := depth_any (i : Int) h (by omega)
        rw [e] at this
        exact ⟨n, h4, hk, this⟩
      have CS : Hid (∀ W u1 u2, RowS W u1 T → RowS W u2 T → _) := Lib.hid (fun W u1 u2 h1 h2 => sametexts9_any (w := W) h1 h2 (by omega))
      obtain ⟨n, hn⟩ : ∃ n, n = l.length := ⟨_, rfl⟩
      have HN := Lib.hid hn
      have n40 : n ≤ 40 := by omega
      clear hg hg' _hb _h1 _h2 hT hB h40 h210 h300 hT4 hPR hPI hLL hl2 hall htx hn hl
      go_enter Try.func6, Try.ntmps6
      go_wp2_with fail
      refine (CA.out _).mono ?_
      rintro e w1 ⟨rfl, B1⟩
      have L1 := Lib.hid B1
      have R1 := Lib.hid (HT.out.below B1)
      have Q1 := Lib.hid (HB.out.below B1)
      clear B1 HT HB
      go_wp2_with fail
      refine (CG.out _ R1.out Q1.out).mono ?_
      rintro e w2 ⟨rfl, B2⟩
      have L2 := Lib.hid (L1.out.trans (B2.mono L1.out.size))
      have R2 := Lib.hid (R1.out.below B2)
      have Q2 := Lib.hid (Q1.out.below B2)
      clear B2 R1 Q1 CG
      go_wp2_with fail
      refine (CP.out _ R2.out Q2.out).mono ?_
      rintro e w3 ⟨u, rfl, O3, B3⟩
      have L3 := Lib.hid (L2.out.trans (B3.mono L2.out.size))
      have R3 := Lib.hid (R2.out.below B3)
      have U3 : Hid (RowP w3 u l) := O3.row
      obtain ⟨au, nu, cu, hnu, rfl⟩ : ∃ au nu cu, nu = l.length ∧ u = .slice au nu cu := by
        obtain ⟨x1, x2, x3⟩ := RowG.len O3.row
        exact ⟨_, _, _, rfl, x3⟩
      rw [← HN.out] at hnu
      subst hnu
      clear B3 O3 R2 Q2 CP
      go_wp2_with fail
      refine (CB.out _ _ U3.out).mono ?_
      rintro e w4 ⟨a, rfl, O4, B4⟩
      have L4 := Lib.hid (L3.out.trans (B4.mono L3.out.size))
      have R4 := Lib.hid (R3.out.below B4)
      have U4 : Hid (RowP w4 (.slice au nu cu) l) := U3.out.below B4
      have S4 : Hid (RowS w4 a T) := O4.row
      clear B4 O4 R3 U3 CB
      go_wp2
      go_loopw [9] (fun i wr => ∃ k : Nat, k ≤ nu ∧ i = .int .i64 (k : Int) ∧ Hid (Below w4.heap.size w4 wr)) (fun i _ => nu - (intOf i).toNat)
      case atStart => exact ⟨0, Nat.zero_le _, rfl, Below.refl _ _⟩
      case round =>
        obtain ⟨k, hk, rfl, hL⟩ := hrel
        by_cases hlt : k < nu
        · obtain ⟨d, d4, dk, CDk⟩ := CD.out wr (.slice au nu cu) k (U4.out.below hL.out) (by rw [← HN.out]; exact hlt)
          have HCD := Lib.hid CDk
          have yk : (k : Int) < (nu : Int) := by omega
          have w6 : IntKind.i64.wrap ((k : Int) + 1) = (k : Int) + 1 := IntWalk.i64_in _ (by omega)
          have t1 : decide ((4 : Int) < (d : Int)) = false := by simp; omega
          have t2 : decide ((k : Int) < (d : Int)) = false := by simp; omega
          clear CDk
          go_wp2_with fail
          refine (HCD.out).mono ?_
          rintro e w5 ⟨rfl, B5⟩
          have L5 := Lib.hid (hL.out.trans (B5.mono hL.out.size))
          clear B5 HCD hL
          go_wp2
          go_roundw
          case rel => exact ⟨k + 1, by omega, by go_num, L5.out⟩
          case measure => simp [intOf]; omega
        · have e : k = nu := by omega
          subst e
          have L5 := Lib.hid (L4.out.trans (hL.out.mono L4.out.size))
          have R5 := Lib.hid (R4.out.below hL.out)
          have S5 := Lib.hid (S4.out.below hL.out)
          clear R4 S4 U4 CD hL
          go_wp2_with fail
          refine (CA.out _).mono ?_
          rintro e w6 ⟨rfl, B6⟩
          have L6 := Lib.hid (L5.out.trans (B6.mono L5.out.size))
          have R6 := Lib.hid (R5.out.below B6)
          have S6 := Lib.hid (S5.out.below B6)
          clear B6 R5 S5 CA
          go_wp2_with fail
          refine (CS.out _ _ _ S6.out R6.out).mono ?_
          rintro e w7 ⟨rfl, B7⟩
          have L7 := Lib.hid (L6.out.trans (B7.mono L6.out.size))
          clear B7 CS
          go_wp2
          go_ret
          exact ⟨rfl, L7.out⟩
    · have hPR : packR T Bs = ([], 1) := by unfold packR; rw [if_pos (Or.inr hl)]
      rw [hPR] at CP
      dsimp only at CP
      clear hg hg' _hb _h1 _h2 hT hB h40 h210 h300 hPR hl
      go_enter Try.func6, Try.ntmps6
      go_wp2_with fail
      refine (CA.out _).mono ?_
      rintro e w1 ⟨rfl, B1⟩
      have L1 := Lib.hid B1
      have R1 := Lib.hid (HT.out.below B1)
      have Q1 := Lib.hid (HB.out.below B1)
      clear B1 HT HB
      go_wp2_with fail
      refine (CG.out _ R1.out Q1.out).mono ?_
      rintro e w2 ⟨rfl, B2⟩
      have L2 := Lib.hid (L1.out.trans (B2.mono L1.out.size))
      have R2 := Lib.hid (R1.out.below B2)
      have Q2 := Lib.hid (Q1.out.below B2)
      clear B2 R1 Q1 CG
      go_wp2_with fail
      refine (CP.out _ R2.out Q2.out).mono ?_
      rintro e w3 ⟨u, rfl, O3, B3⟩
      have L3 := Lib.hid (L2.out.trans (B3.mono L2.out.size))
      obtain ⟨au, cu, rfl⟩ := RowG.len O3.row
      clear B3 O3 R2 Q2 CP
      go_wp2_with fail
      refine (CA.out _).mono ?_
      rintro e w4 ⟨rfl, B4⟩
      have L4 := Lib.hid (L3.out.trans (B4.mono L3.out.size))
      clear B4 CA
      go_wp2
      go_ret
      exact ⟨rfl, L4.out⟩
end Go.Proofs.Ytekeaoolodmdaaa
