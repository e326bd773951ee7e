import Derived.Test.YtnmjcpoobabjgaaGreatDoorGJm
import Derived.Test.YtnmjcpoobabjgaaGreatDoorHH
/- What was written is opened as it was, and bytes that are opened are what is written of it. -/
namespace Go.Proofs.YtnmjcpoobabjgaaGreatDoor
set_option maxRecDepth 100000
open Go.RowKit Classical
set_option maxHeartbeats 8000000 in
theorem packback_any {l : List Pt} {v : Value} (sb : List UInt8) {w : World} (hv : RowP w v l) (hT : Tie w) (hC : TieC w) (ht0 : ∀ x ∈ l, x.t.length ≤ 140737488355328) (hs0 : l.length ≤ 9223372036854775807) (hb0 : sb.length ≤ 9223372036854775807) :
    Calls Tryz.prog 5 #[v, .string (bs sb)] w fun e w' => e = .returned (.bool true) ∧ Below w.heap.size w w' := by
  have CA : Hid (∀ W, Tie W → TieC W → _) := Lib.hid (fun W h k => palive_any W h k)
  have CG : Hid (∀ W, RowP W v l → _) := Lib.hid (fun W h => great9_any (w := W) h ht0 hs0)
  have HV := Lib.hid hv
  have TI := Lib.hid hT
  have TC := Lib.hid hC
  obtain ⟨sbb, hsb⟩ : ∃ sbb, sbb = bs sb := ⟨_, rfl⟩
  have hz : sbb.size = sb.length := by rw [hsb, bs_size]
  have HSB : Hid (bs sb = sbb) := hsb.symm
  rw [HSB.out]
  cases hg : greatP l with
  | true =>
    rw [hg] at CG
    clear hg ht0 hs0 hv hT hC hz hsb
    go_enter Tryz.func5, Tryz.ntmps5
    go_wp2_with fail
    refine (CA.out _ TI.out TC.out).mono ?_
    rintro e w1 ⟨rfl, B1⟩
    have L1 := Lib.hid B1
    clear B1
    go_wp2_with fail
    refine (CG.out _ (RowG.below HV.out L1.out)).mono ?_
    rintro e w2 ⟨rfl, B2⟩
    have L2 := Lib.hid (L1.out.trans (B2.mono L1.out.size))
    clear B2
    go_wp2_with fail
    refine (CA.out _ (TI.out.below L2.out) (TC.out.below L2.out)).mono ?_
    rintro e w3 ⟨rfl, B3⟩
    have L3 := Lib.hid (L2.out.trans (B3.mono L2.out.size))
    clear B3
    go_wp2
    go_ret
    exact ⟨rfl, L3.out⟩
  | false =>
    rw [hg] at CG
    by_cases h8 : 8000 < sb.length
    · have h8' : (8000 : Int) < (sbb.size : Int) := by omega
      clear hg ht0 hs0 hv hT hC hz hsb h8
      go_enter Tryz.func5, Tryz.ntmps5
      go_wp2_with fail
      refine (CA.out _ TI.out TC.out).mono ?_
      rintro e w1 ⟨rfl, B1⟩
      have L1 := Lib.hid B1
      clear B1
      go_wp2_with fail
      refine (CG.out _ (RowG.below HV.out L1.out)).mono ?_
      rintro e w2 ⟨rfl, B2⟩
      have L2 := Lib.hid (L1.out.trans (B2.mono L1.out.size))
      clear B2
      go_wp2_with fail
      refine (CA.out _ (TI.out.below L2.out) (TC.out.below L2.out)).mono ?_
      rintro e w3 ⟨rfl, B3⟩
      have L3 := Lib.hid (L2.out.trans (B3.mono L2.out.size))
      clear B3
      go_wp2
      go_ret
      exact ⟨rfl, L3.out⟩
    · have h8' : (sbb.size : Int) ≤ 8000 := by omega
      obtain ⟨n210, t30⟩ := greatP_no hg
      have t65 : ∀ x ∈ l, x.t.length ≤ 65536 := fun x hx => by have := t30 x hx; omega
      have CO : Hid (∀ W, Tie W → TieC W → Calls Tryz.prog 12 #[.string sbb] W fun e w' => Below W.heap.size W w' ∧ ((∃ l S os g, opR sb = some (l, S, os) ∧ e = .returned (.tuple #[.pointer (some ⟨g, 0, none⟩), .int .i64 0]) ∧ PackAt w' g l S os ∧ W.heap.size ≤ g) ∨ (opR sb = none ∧ e = .returned (.tuple #[.pointer none, .int .i64 2])))) := fun W h1 h2 => by
        have := popen_any sb W (by omega) h1 h2
        rw [HSB.out] at this
        exact this
      cases hR : packR l with
      | none =>
        have CW : Hid (∀ W, RowP W v l → Tie W → TieC W → Calls Tryz.prog 9 #[v] W fun e w' => e = .returned (.tuple #[.string ⟨#[]⟩, .int .i64 1]) ∧ Below W.heap.size W w') := fun W h1 h2 h3 => by
          have := pwrite_any h1 h2 h3 (by omega) t65
          unfold wrv at this
          rw [hR] at this
          exact this
        clear hg ht0 hs0 hv hT hC hz hsb h8 n210 t30 t65 hR hb0
        go_enter Tryz.func5, Tryz.ntmps5
        go_wp2_with fail
        refine (CA.out _ TI.out TC.out).mono ?_
        rintro e w1 ⟨rfl, B1⟩
        have L1 := Lib.hid B1
        clear B1
        go_wp2_with fail
        refine (CG.out _ (RowG.below HV.out L1.out)).mono ?_
        rintro e w2 ⟨rfl, B2⟩
        have L2 := Lib.hid (L1.out.trans (B2.mono L1.out.size))
        clear B2 CG
        go_wp2_with fail
        refine (CW.out _ (RowG.below HV.out L2.out) (TI.out.below L2.out) (TC.out.below L2.out)).mono ?_
        rintro e w3 ⟨rfl, B3⟩
        have L3 := Lib.hid (L2.out.trans (B3.mono L2.out.size))
        clear B3 CW
        have TT := Lib.hid (TI.out.below L3.out)
        have CT := Lib.hid (TC.out.below L3.out)
        cases hO : opR sb with
        | none =>
          have CO2 : Hid (∀ W, Tie W → TieC W → Calls Tryz.prog 12 #[.string sbb] W fun e w' => Below W.heap.size W w' ∧ e = .returned (.tuple #[.pointer none, .int .i64 2])) := fun W h1 h2 => (CO.out W h1 h2).mono fun e w' h => ⟨h.1, h.2.elim (fun ⟨_, _, _, _, h, _⟩ => by rw [hO] at h; cases h) (fun h => h.2)⟩
          clear hO CO
          go_wp2_with fail
          refine (CO2.out _ TT.out CT.out).mono ?_
          rintro e w10 ⟨B10, rfl⟩
          have L10 := Lib.hid (L3.out.trans (B10.mono L3.out.size))
          clear B10 CO2
          go_wp2_with fail
          refine (CA.out _ (TI.out.below L10.out) (TC.out.below L10.out)).mono ?_
          rintro e w11 ⟨rfl, B11⟩
          have L11 := Lib.hid (L10.out.trans (B11.mono L10.out.size))
          clear B11
          go_wp2
          go_ret
          exact ⟨rfl, L11.out⟩
        | some r =>
          obtain ⟨l', S', os'⟩ := r
          obtain ⟨e1, e2, e3, e4, e5, e6⟩ := opR_back hO
          have CO2 : Hid (∀ W, Tie W → TieC W → Calls Tryz.prog 12 #[.string sbb] W fun e w' => Below W.heap.size W w' ∧ ∃ g, e = .returned (.tuple #[.pointer (some ⟨g, 0, none⟩), .int .i64 0]) ∧ PackAt w' g l' S' os') := fun W h1 h2 => (CO.out W h1 h2).mono fun e w' h => ⟨h.1, h.2.elim (fun ⟨_, _, _, g, h3, h4, h5, _⟩ => by
            rw [hO] at h3
            simp only [Option.some.injEq, Prod.mk.injEq] at h3
            obtain ⟨rfl, rfl, rfl⟩ := h3
            exact ⟨g, h4, h5⟩) (fun h => by rw [hO] at h; cases h.1)⟩
          have CW2 : Hid (∀ W v, RowP W v l' → Tie W → TieC W → Calls Tryz.prog 9 #[v] W fun e w' => e = .returned (.tuple #[.string sbb, .int .i64 0]) ∧ Below W.heap.size W w') := fun W v h1 h2 h3 => by
            have := pwrite_any h1 h2 h3 (by omega) e3
            unfold wrv at this
            rw [e2] at this
            dsimp only at this
            rw [e1, HSB.out] at this
            exact this
          have CP2 : Hid (∀ W g, PackAt W g l' S' os' → _) := Lib.hid (fun W g h => pparts_any (w := W) (g := g) h (by omega))
          clear hO CO e1 e2 e3 e4 e5 e6
          go_wp2_with fail
          refine (CO2.out _ TT.out CT.out).mono ?_
          rintro e w10 ⟨B10, g10, rfl, P10⟩
          have L10 := Lib.hid (L3.out.trans (B10.mono L3.out.size))
          have HP10 := Lib.hid P10
          clear B10 CO2 P10
          go_wp2_with fail
          refine (CP2.out _ _ HP10.out).mono ?_
          rintro e w11 ⟨v11, rfl, O11, B11⟩
          have L11 := Lib.hid (L10.out.trans (B11.mono L10.out.size))
          have R11 := Lib.hid O11.row
          clear B11 CP2 O11
          go_wp2_with fail
          refine (CW2.out _ _ R11.out (TI.out.below L11.out) (TC.out.below L11.out)).mono ?_
          rintro e w12 ⟨rfl, B12⟩
          have L12 := Lib.hid (L11.out.trans (B12.mono L11.out.size))
          clear B12 CW2 R11
          go_wp2_with fail
          refine (CA.out _ (TI.out.below L12.out) (TC.out.below L12.out)).mono ?_
          rintro e w13 ⟨rfl, B13⟩
          have L13 := Lib.hid (L12.out.trans (B13.mono L12.out.size))
          clear B13
          go_wp2
          go_ret
          exact ⟨rfl, L13.out⟩
      | some os =>
        have hop := opR_write hR t65
        have hbl := body_len (right_fm (pack_right hR).1).1 t65
        obtain ⟨ss, hss⟩ : ∃ ss, ss = bs (sealL (bodyB l)) := ⟨_, rfl⟩
        have CW : Hid (∀ W, RowP W v l → Tie W → TieC W → Calls Tryz.prog 9 #[v] W fun e w' => e = .returned (.tuple #[.string ss, .int .i64 0]) ∧ Below W.heap.size W w') := fun W h1 h2 h3 => by
          have := pwrite_any h1 h2 h3 (by omega) t65
          unfold wrv at this
          rw [hR] at this
          dsimp only at this
          rw [← hss] at this
          exact this
        have CO1 : Hid (∀ W, Tie W → TieC W → Calls Tryz.prog 12 #[.string ss] W fun e w' => Below W.heap.size W w' ∧ ∃ g, e = .returned (.tuple #[.pointer (some ⟨g, 0, none⟩), .int .i64 0]) ∧ PackAt w' g l (spt l (4 + (dg l.length).length) 0) os) := fun W h2 h3 => by
          have := popen_any (sealL (bodyB l)) W (by rw [sealL_len]; omega) h2 h3
          rw [← hss, hop] at this
          refine this.mono fun e w' h => ⟨h.1, ?_⟩
          rcases h.2 with ⟨l', S', os', g, h4, h5, h6, -⟩ | ⟨h4, -⟩
          · simp only [Option.some.injEq, Prod.mk.injEq] at h4
            obtain ⟨rfl, rfl, rfl⟩ := h4
            exact ⟨g, h5, h6⟩
          · cases h4
        have CP : Hid (∀ W g, PackAt W g l (spt l (4 + (dg l.length).length) 0) os → _) := Lib.hid (fun W g h => pparts_any (w := W) (g := g) h (by omega))
        have CS : Hid (∀ W u, RowP W u l → RowP W v l → _) := Lib.hid (fun W u h k => same9_any (w := W) h k (by omega))
        generalize spt l (4 + (dg l.length).length) 0 = SP at CO1 CP
        clear hg ht0 hs0 hv hT hC hz hsb h8 n210 t30 t65 hR hb0 hop hbl hss
        go_enter Tryz.func5, Tryz.ntmps5
        go_wp2_with fail
        refine (CA.out _ TI.out TC.out).mono ?_
        rintro e w1 ⟨rfl, B1⟩
        have L1 := Lib.hid B1
        clear B1
        go_wp2_with fail
        refine (CG.out _ (RowG.below HV.out L1.out)).mono ?_
        rintro e w2 ⟨rfl, B2⟩
        have L2 := Lib.hid (L1.out.trans (B2.mono L1.out.size))
        clear B2 CG
        go_wp2_with fail
        refine (CW.out _ (RowG.below HV.out L2.out) (TI.out.below L2.out) (TC.out.below L2.out)).mono ?_
        rintro e w3 ⟨rfl, B3⟩
        have L3 := Lib.hid (L2.out.trans (B3.mono L2.out.size))
        clear B3 CW
        go_wp2_with fail
        refine (CO1.out _ (TI.out.below L3.out) (TC.out.below L3.out)).mono ?_
        rintro e w4 ⟨B4, g4, rfl, P4⟩
        have L4 := Lib.hid (L3.out.trans (B4.mono L3.out.size))
        have HP4 := Lib.hid P4
        clear B4 P4 CO1
        go_wp2_with fail
        refine (CP.out _ _ HP4.out).mono ?_
        rintro e w5 ⟨v5, rfl, O5, B5⟩
        have L5 := Lib.hid (L4.out.trans (B5.mono L4.out.size))
        have R5 := Lib.hid O5.row
        clear B5 O5 CP
        go_wp2_with fail
        refine (CS.out _ _ R5.out (RowG.below HV.out L5.out)).mono ?_
        rintro e w6 ⟨rfl, B6⟩
        have L6 := Lib.hid (L5.out.trans (B6.mono L5.out.size))
        clear B6 R5 CS
        have TT := Lib.hid (TI.out.below L6.out)
        have CT := Lib.hid (TC.out.below L6.out)
        cases hO : opR sb with
        | none =>
          have CO2 : Hid (∀ W, Tie W → TieC W → Calls Tryz.prog 12 #[.string sbb] W fun e w' => Below W.heap.size W w' ∧ e = .returned (.tuple #[.pointer none, .int .i64 2])) := fun W h1 h2 => (CO.out W h1 h2).mono fun e w' h => ⟨h.1, h.2.elim (fun ⟨_, _, _, _, h, _⟩ => by rw [hO] at h; cases h) (fun h => h.2)⟩
          clear hO CO
          go_wp2_with fail
          refine (CO2.out _ TT.out CT.out).mono ?_
          rintro e w10 ⟨B10, rfl⟩
          have L10 := Lib.hid (L6.out.trans (B10.mono L6.out.size))
          clear B10 CO2
          go_wp2_with fail
          refine (CA.out _ (TI.out.below L10.out) (TC.out.below L10.out)).mono ?_
          rintro e w11 ⟨rfl, B11⟩
          have L11 := Lib.hid (L10.out.trans (B11.mono L10.out.size))
          clear B11
          go_wp2
          go_ret
          exact ⟨rfl, L11.out⟩
        | some r =>
          obtain ⟨l', S', os'⟩ := r
          obtain ⟨e1, e2, e3, e4, e5, e6⟩ := opR_back hO
          have CO2 : Hid (∀ W, Tie W → TieC W → Calls Tryz.prog 12 #[.string sbb] W fun e w' => Below W.heap.size W w' ∧ ∃ g, e = .returned (.tuple #[.pointer (some ⟨g, 0, none⟩), .int .i64 0]) ∧ PackAt w' g l' S' os') := fun W h1 h2 => (CO.out W h1 h2).mono fun e w' h => ⟨h.1, h.2.elim (fun ⟨_, _, _, g, h3, h4, h5, _⟩ => by
            rw [hO] at h3
            simp only [Option.some.injEq, Prod.mk.injEq] at h3
            obtain ⟨rfl, rfl, rfl⟩ := h3
            exact ⟨g, h4, h5⟩) (fun h => by rw [hO] at h; cases h.1)⟩
          have CW2 : Hid (∀ W v, RowP W v l' → Tie W → TieC W → Calls Tryz.prog 9 #[v] W fun e w' => e = .returned (.tuple #[.string sbb, .int .i64 0]) ∧ Below W.heap.size W w') := fun W v h1 h2 h3 => by
            have := pwrite_any h1 h2 h3 (by omega) e3
            unfold wrv at this
            rw [e2] at this
            dsimp only at this
            rw [e1, HSB.out] at this
            exact this
          have CP2 : Hid (∀ W g, PackAt W g l' S' os' → _) := Lib.hid (fun W g h => pparts_any (w := W) (g := g) h (by omega))
          clear hO CO e1 e2 e3 e4 e5 e6
          go_wp2_with fail
          refine (CO2.out _ TT.out CT.out).mono ?_
          rintro e w10 ⟨B10, g10, rfl, P10⟩
          have L10 := Lib.hid (L6.out.trans (B10.mono L6.out.size))
          have HP10 := Lib.hid P10
          clear B10 CO2 P10
          go_wp2_with fail
          refine (CP2.out _ _ HP10.out).mono ?_
          rintro e w11 ⟨v11, rfl, O11, B11⟩
          have L11 := Lib.hid (L10.out.trans (B11.mono L10.out.size))
          have R11 := Lib.hid O11.row
          clear B11 CP2 O11
          go_wp2_with fail
          refine (CW2.out _ _ R11.out (TI.out.below L11.out) (TC.out.below L11.out)).mono ?_
          rintro e w12 ⟨rfl, B12⟩
          have L12 := Lib.hid (L11.out.trans (B12.mono L11.out.size))
          clear B12 CW2 R11
          go_wp2_with fail
          refine (CA.out _ (TI.out.below L12.out) (TC.out.below L12.out)).mono ?_
          rintro e w13 ⟨rfl, B13⟩
          have L13 := Lib.hid (L12.out.trans (B13.mono L12.out.size))
          clear B13
          go_wp2
          go_ret
          exact ⟨rfl, L13.out⟩
end Go.Proofs.YtnmjcpoobabjgaaGreatDoor
