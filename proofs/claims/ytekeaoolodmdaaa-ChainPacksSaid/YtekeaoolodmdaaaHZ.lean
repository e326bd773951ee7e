import Derived.Test.YtekeaoolodmdaaaHY
/- The parts that are made of texts are the document's. -/
namespace Go.Proofs.Ytekeaoolodmdaaa
set_option maxRecDepth 100000
open Go.RowKit
set_option maxHeartbeats 2000000 in
theorem chainpacks_any {T : List (List UInt8)} {Bs : List Int} {vt vb : Value} {w : World} (hT : RowS w vt T) (hB : RowI w vb Bs) (_hb : ∀ x ∈ Bs, -9223372036854775808 ≤ x ∧ x ≤ 9223372036854775807) (_h1 : T.length ≤ 9223372036854775807) (_h2 : Bs.length ≤ 9223372036854775807) :
    Calls Try.prog 5 #[vt, vb] w fun e w' => e = .returned (.bool true) ∧ Below w.heap.size w w' := by
  have CA : Hid (∀ W, _) := Lib.hid (fun W => alive9_any W)
  have CG : Hid (∀ W, RowS W vt T → RowI W vb Bs → _) := Lib.hid (fun W h k => many9_any (w := W) h k)
  have HT := Lib.hid hT
  have HB := Lib.hid hB
  by_cases hg : manyB T Bs.length = true
  · rw [hg] at CG
    clear hg _hb _h1 _h2 hT hB
    go_enter Try.func5, Try.ntmps5
    go_wp2_with fail
    refine (CA.out _).mono ?_
    rintro e w1 ⟨rfl, B1⟩
    have L1 := Lib.hid B1
    have R1 := Lib.hid (HT.out.below B1)
    have Q1 := Lib.hid (HB.out.below B1)
    clear B1
    go_wp2_with fail
    refine (CG.out _ R1.out Q1.out).mono ?_
    rintro e w2 ⟨rfl, B2⟩
    have L2 := Lib.hid (L1.out.trans (B2.mono L1.out.size))
    clear B2
    go_wp2_with fail
    refine (CA.out _).mono ?_
    rintro e w3 ⟨rfl, B3⟩
    have L3 := Lib.hid (L2.out.trans (B3.mono L2.out.size))
    clear B3
    go_wp2
    go_ret
    exact ⟨rfl, L3.out⟩
  · have hg' : manyB T Bs.length = false := by simpa using hg
    rw [hg'] at CG
    obtain ⟨h40, h210, h300⟩ := manyB_no hg'
    have CP : Hid (∀ W, RowS W vt T → RowI W vb Bs → _) := Lib.hid (fun W h k => pack_any (w := W) h k (by omega))
    have CQ : Hid (∀ W, RowS W vt T → RowI W vb Bs → _) := Lib.hid (fun W h k => qpack_any (w := W) h k (by omega))
    have hlen : (packR T Bs).1.length ≤ 40 := by
      unfold packR
      split
      · simp
      · split
        · simp
        · show (packL T Bs T.length).length ≤ 40
          rw [packL_len]; omega
    have CS : Hid (∀ W u1 u2, RowP W u1 (packR T Bs).1 → RowP W u2 (packR T Bs).1 → _) := Lib.hid (fun W u1 u2 h1 h2 => same9_any (w := W) h1 h2 (by omega))
    generalize (packR T Bs).1 = l at *
    generalize (packR T Bs).2 = er at *
    clear hg hg' _hb _h1 _h2 hT hB h40 h210 h300 hlen
    go_enter Try.func5, Try.ntmps5
    go_wp2_with fail
    refine (CA.out _).mono ?_
    rintro e w1 ⟨rfl, B1⟩
    have L1 := Lib.hid B1
    have R1 := Lib.hid (HT.out.below B1)
    have Q1 := Lib.hid (HB.out.below B1)
    clear B1 HT HB
    go_wp2_with fail
    refine (CG.out _ R1.out Q1.out).mono ?_
    rintro e w2 ⟨rfl, B2⟩
    have L2 := Lib.hid (L1.out.trans (B2.mono L1.out.size))
    have R2 := Lib.hid (R1.out.below B2)
    have Q2 := Lib.hid (Q1.out.below B2)
    clear B2 R1 Q1 CG
    go_wp2_with fail
    refine (CP.out _ R2.out Q2.out).mono ?_
    rintro e w3 ⟨u, rfl, O3, B3⟩
    have L3 := Lib.hid (L2.out.trans (B3.mono L2.out.size))
    have R3 := Lib.hid (R2.out.below B3)
    have Q3 := Lib.hid (Q2.out.below B3)
    have U3 : Hid (RowP w3 u l) := O3.row
    clear B3 O3 R2 Q2 CP
    go_wp2_with fail
    refine (CQ.out _ R3.out Q3.out).mono ?_
    rintro e w4 ⟨u2, rfl, O4, B4⟩
    have L4 := Lib.hid (L3.out.trans (B4.mono L3.out.size))
    have U4 : Hid (RowP w4 u l) := U3.out.below B4
    have V4 : Hid (RowP w4 u2 l) := O4.row
    clear B4 O4 R3 Q3 U3 CQ
    go_wp2_with fail
    refine (CA.out _).mono ?_
    rintro e w5 ⟨rfl, B5⟩
    have L5 := Lib.hid (L4.out.trans (B5.mono L4.out.size))
    have U5 : Hid (RowP w5 u l) := U4.out.below B5
    have V5 : Hid (RowP w5 u2 l) := V4.out.below B5
    clear B5 CA U4 V4
    go_wp2_with fail
    refine (CS.out _ _ _ U5.out V5.out).mono ?_
    rintro e w6 ⟨rfl, B6⟩
    have L6 := Lib.hid (L5.out.trans (B6.mono L5.out.size))
    clear B6 CS
    go_wp2
    go_ret
    exact ⟨rfl, L6.out⟩
end Go.Proofs.Ytekeaoolodmdaaa
