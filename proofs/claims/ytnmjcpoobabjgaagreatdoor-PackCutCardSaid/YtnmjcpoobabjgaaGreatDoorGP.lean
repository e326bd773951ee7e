import Derived.Test.YtnmjcpoobabjgaaGreatDoorGJm
import Derived.Test.YtnmjcpoobabjgaaGreatDoorHH
set_option linter.unusedVariables false
set_option linter.unusedSimpArgs false
/- Of a pack's bytes all is saved, and of a beginning of them just the objects whose parts are whole there. -/
namespace Go.Proofs.YtnmjcpoobabjgaaGreatDoor
set_option maxRecDepth 100000
open Go.RowKit Classical
theorem whl_zero (l : List Pt) (i : Nat) : whl l i 0 = 0 := by
  cases l with
  | nil => rfl
  | cons x r =>
    unfold whl
    rw [if_neg]
    unfold pbt
    rw [List.length_append]
    have := dg_pos (clamp (ahd x i))
    omega
theorem pend_ge (l : List Pt) (p i k : Nat) : p ≤ pend l p i k := Nat.le_add_right _ _
/- how many parts are whole in the first bytes of a pack's -/
def whole (l : List Pt) (a : Nat) : Nat := whl l 0 (a - (4 + (dg l.length).length))
theorem whole_le (l : List Pt) (a : Nat) : whole l a ≤ l.length := whl_le _ _ _
theorem whole_iff {l : List Pt} {a k : Nat} (hk : k < l.length) : pend l (4 + (dg l.length).length) 0 k ≤ a ↔ k < whole l a := by
  by_cases c : 4 + (dg l.length).length ≤ a
  · exact whl_iff l _ 0 a k c hk
  · have := pend_ge l (4 + (dg l.length).length) 0 k
    unfold whole
    rw [show a - (4 + (dg l.length).length) = 0 by omega, whl_zero]
    omega
theorem prd_cut2 {l : List Pt} {R : List UInt8} (h : l.length ≤ 200) (ho : okPs l 0) (a : Nat) : (prd ((bodyB l ++ R).take a)).1 = l.take (whole l a) := by
  rcases prd_cut (R := R) h ho a with e | ⟨c, e⟩
  · exact e
  · unfold whole
    rw [e, show a - (4 + (dg l.length).length) = 0 by omega, whl_zero]; rfl
theorem spt_pend {l : List Pt} {k : Nat} (h : k + 1 < l.length) : (spt l (4 + (dg l.length).length) 0).getD (k + 1) 0 = pend l (4 + (dg l.length).length) 0 k := spt_next l _ 0 k h
theorem pend_last {l : List Pt} {k : Nat} (h : k + 1 = l.length) (hn : l.length ≤ 200) : pend l (4 + (dg l.length).length) 0 k = (bodyB l).length := by
  have c0 : clamp (l.length : Int) = l.length := by rw [clamp_of (by omega) (by omega)]; rfl
  unfold pend bodyB
  rw [List.take_of_length_le (by omega), c0]
  simp only [List.length_append, mark, List.length_cons, List.length_nil]
  omega
set_option maxHeartbeats 8000000 in
theorem packcut_any {l : List Pt} {v : Value} {w : World} (c : Nat) (hc16 : c < 65536) (hv : RowP w v l) (hT : Tie w) (hC : TieC w) (ht0 : ∀ x ∈ l, x.t.length ≤ 140737488355328) (hs0 : l.length ≤ 9223372036854775807) :
    Calls Tryz.prog 6 #[v, .int .u16 (c : Int)] w fun e w' => e = .returned (.bool true) ∧ Below w.heap.size w w' := by
  have CA : Hid (∀ W, Tie W → TieC W → _) := Lib.hid (fun W h k => palive_any W h k)
  have CG : Hid (∀ W, RowP W v l → _) := Lib.hid (fun W h => great9_any (w := W) h ht0 hs0)
  have HV := Lib.hid hv
  have TI := Lib.hid hT
  have TC := Lib.hid hC
  obtain ⟨n, hn⟩ : ∃ n, n = l.length := ⟨_, rfl⟩
  obtain ⟨av, cv, rfl⟩ : ∃ ad cap, v = .slice ad n cap := by
    obtain ⟨x1, x2, x3⟩ := RowG.len hv
    exact ⟨_, _, by rw [hn]; exact x3⟩
  cases hg : greatP l with
  | true =>
    rw [hg] at CG
    clear hg ht0 hs0 hv hT hC hn
    go_enter Tryz.func6, Tryz.ntmps6
    go_wp2_with fail
    refine (CA.out _ TI.out TC.out).mono ?_
    rintro e w1 ⟨rfl, B1⟩
    have L1 := Lib.hid B1
    clear B1
    go_wp2_with fail
    refine (CG.out _ (RowG.below HV.out L1.out)).mono ?_
    rintro e w2 ⟨rfl, B2⟩
    have L2 := Lib.hid (L1.out.trans (B2.mono L1.out.size))
    clear B2
    go_wp2_with fail
    refine (CA.out _ (TI.out.below L2.out) (TC.out.below L2.out)).mono ?_
    rintro e w3 ⟨rfl, B3⟩
    have L3 := Lib.hid (L2.out.trans (B3.mono L2.out.size))
    clear B3
    go_wp2
    go_ret
    exact ⟨rfl, L3.out⟩
  | false =>
    rw [hg] at CG
    obtain ⟨n210, t30⟩ := greatP_no hg
    have t65 : ∀ x ∈ l, x.t.length ≤ 65536 := fun x hx => by have := t30 x hx; omega
    cases hR : packR l with
    | none =>
      have CW : Hid (∀ W, RowP W (.slice av n cv) l → Tie W → TieC W → Calls Tryz.prog 9 #[.slice av n cv] W fun e w' => e = .returned (.tuple #[.string ⟨#[]⟩, .int .i64 1]) ∧ Below W.heap.size W w') := fun W h1 h2 h3 => by
        have := pwrite_any h1 h2 h3 (by omega) t65
        unfold wrv at this
        rw [hR] at this
        exact this
      clear hg ht0 hs0 hv hT hC n210 t30 t65 hR hn
      go_enter Tryz.func6, Tryz.ntmps6
      go_wp2_with fail
      refine (CA.out _ TI.out TC.out).mono ?_
      rintro e w1 ⟨rfl, B1⟩
      have L1 := Lib.hid B1
      clear B1
      go_wp2_with fail
      refine (CG.out _ (RowG.below HV.out L1.out)).mono ?_
      rintro e w2 ⟨rfl, B2⟩
      have L2 := Lib.hid (L1.out.trans (B2.mono L1.out.size))
      clear B2 CG
      go_wp2_with fail
      refine (CW.out _ (RowG.below HV.out L2.out) (TI.out.below L2.out) (TC.out.below L2.out)).mono ?_
      rintro e w3 ⟨rfl, B3⟩
      have L3 := Lib.hid (L2.out.trans (B3.mono L2.out.size))
      clear B3 CW
      go_wp2_with fail
      refine (CA.out _ (TI.out.below L3.out) (TC.out.below L3.out)).mono ?_
      rintro e w4 ⟨rfl, B4⟩
      have L4 := Lib.hid (L3.out.trans (B4.mono L3.out.size))
      clear B4
      go_wp2
      go_ret
      exact ⟨rfl, L4.out⟩
    | some os =>
      have n200 := (right_fm (pack_right hR).1).1
      have hok := right_ok (pack_right hR).1 t65
      have hop := opR_write hR t65
      have hbl := body_len n200 t65
      obtain ⟨hol, -, -⟩ := pack_ok hR
      obtain ⟨d, hd⟩ : ∃ d, d = sealL (bodyB l) := ⟨_, rfl⟩
      have hdl : d.length = (bodyB l).length + 4 := by rw [hd, sealL_len]
      obtain ⟨ss, hss⟩ : ∃ ss, ss = bs d := ⟨_, rfl⟩
      have hsz : ss.size = d.length := by rw [hss, bs_size]
      have CW : Hid (∀ W, RowP W (.slice av n cv) l → Tie W → TieC W → Calls Tryz.prog 9 #[.slice av n cv] W fun e w' => e = .returned (.tuple #[.string ss, .int .i64 0]) ∧ Below W.heap.size W w') := fun W h1 h2 h3 => by
        have := pwrite_any h1 h2 h3 (by omega) t65
        unfold wrv at this
        rw [hR] at this
        dsimp only at this
        rw [← hd, ← hss] at this
        exact this
      by_cases n0 : n = 0
      · subst n0
        clear hg ht0 hs0 hv hT hC n210 t30 t65 hR hn n200 hok hop hbl hol hd hdl hss hsz
        go_enter Tryz.func6, Tryz.ntmps6
        go_wp2_with fail
        refine (CA.out _ TI.out TC.out).mono ?_
        rintro e w1 ⟨rfl, B1⟩
        have L1 := Lib.hid B1
        clear B1
        go_wp2_with fail
        refine (CG.out _ (RowG.below HV.out L1.out)).mono ?_
        rintro e w2 ⟨rfl, B2⟩
        have L2 := Lib.hid (L1.out.trans (B2.mono L1.out.size))
        clear B2 CG
        go_wp2_with fail
        refine (CW.out _ (RowG.below HV.out L2.out) (TI.out.below L2.out) (TC.out.below L2.out)).mono ?_
        rintro e w3 ⟨rfl, B3⟩
        have L3 := Lib.hid (L2.out.trans (B3.mono L2.out.size))
        clear B3 CW
        go_wp2_with fail
        refine (CA.out _ (TI.out.below L3.out) (TC.out.below L3.out)).mono ?_
        rintro e w4 ⟨rfl, B4⟩
        have L4 := Lib.hid (L3.out.trans (B4.mono L3.out.size))
        clear B4
        go_wp2
        go_ret
        exact ⟨rfl, L4.out⟩
      · obtain ⟨S, hS⟩ : ∃ S, S = spt l (4 + (dg l.length).length) 0 := ⟨_, rfl⟩
        have hSl : S.length = l.length := by rw [hS, spt_len]
        obtain ⟨a, ha⟩ : ∃ a, a = c % (d.length + 1) := ⟨_, rfl⟩
        have ha2 : a ≤ d.length := by have := Nat.mod_lt c (show 0 < d.length + 1 by omega); omega
        have CO : Hid (∀ W, Tie W → TieC W → Calls Tryz.prog 12 #[.string ss] W fun e w' => Below W.heap.size W w' ∧ ∃ g, e = .returned (.tuple #[.pointer (some ⟨g, 0, none⟩), .int .i64 0]) ∧ PackAt w' g l S os) := fun W h2 h3 => by
          have := popen_any d W (by omega) h2 h3
          rw [hd, hop, ← hd, ← hss, ← hS] at this
          refine this.mono fun e w' h => ⟨h.1, ?_⟩
          rcases h.2 with ⟨l', S', os', g, h4, h5, h6, -⟩ | ⟨h4, -⟩
          · simp only [Option.some.injEq, Prod.mk.injEq] at h4
            obtain ⟨rfl, rfl, rfl⟩ := h4
            exact ⟨g, h5, h6⟩
          · cases h4
        have CS1 : Hid (∀ W, Calls Tryz.prog 23 #[.string ss] W fun e w' => ∃ ad cap, e = .returned (.slice ad n cap) ∧ Below W.heap.size W w') := fun W => by
          have := psave_any d W (by omega)
          rw [← hss] at this
          have e : (prd d).1 = l := by
            have := prd_body (l := l) (R := sumL (bodyB l)) n200 hok
            rw [hd]
            unfold sealL
            rw [this]
          rw [e, svR_pack hR l.length (Nat.le_refl _)] at this
          refine this.mono fun e w' h => ?_
          obtain ⟨v, h1, h2, h3⟩ := h
          obtain ⟨ad, cap, hsl⟩ := RowG.len h2
          rw [List.length_take, hol, Nat.min_self, ← hn] at hsl
          exact ⟨ad, cap, by rw [h1, hsl], h3⟩
        obtain ⟨q, hq⟩ : ∃ q, q = whole l a := ⟨_, rfl⟩
        have hqn : q ≤ n := by rw [hq, hn]; exact whole_le l a
        have CS2 : Hid (∀ W, Calls Tryz.prog 23 #[.string (bs (d.take a))] W fun e w' => ∃ v, e = .returned v ∧ RowO w' v (os.take q) ∧ Below W.heap.size W w') := fun W => by
          have := psave_any (d.take a) W (by rw [List.length_take]; omega)
          have e : (prd (d.take a)).1 = l.take q := by
            rw [hd, hq]
            unfold sealL
            exact prd_cut2 n200 hok a
          rw [e, List.length_take, Nat.min_eq_left (by omega), svR_take n200 (by omega) q (Nat.le_refl _), svR_pack hR q (by omega)] at this
          exact this
        have hext : ss.extract 0 a = bs (d.take a) := by rw [hss, bs_extract, List.drop_zero, Nat.sub_zero]
        have HEX : Hid (ss.extract 0 a = bs (d.take a)) := hext
        have CSp : Hid (∀ W g (k : Nat), PackAt W g l S os → k + 1 < n → Calls Tryz.prog 18 #[.pointer (some ⟨g, 0, none⟩), .int .i64 ((k : Int) + 1)] W fun e w' => e = .returned (.int .i64 (pend l (4 + (dg l.length).length) 0 k : Nat)) ∧ W = w') := fun W g k h hk => by
          have := pspot_any ((k : Int) + 1) h hSl
          have e : spv S l.length ((k : Int) + 1) = ((pend l (4 + (dg l.length).length) 0 k : Nat) : Int) := by
            unfold spv
            rw [if_pos (by omega), show ((k : Int) + 1).toNat = k + 1 by omega, hS, spt_pend (by omega)]
          rw [e] at this
          exact this
        have HLast : Hid (∀ k, k + 1 = n → ((pend l (4 + (dg l.length).length) 0 k : Nat) : Int) = (ss.size : Int) - 4) := fun k hk => by
          rw [pend_last (by omega) n200]
          omega
        have HIff : Hid (∀ k, k < n → (pend l (4 + (dg l.length).length) 0 k ≤ a ↔ k < q)) := fun k hk => by rw [hq]; exact whole_iff (by omega)
        have COb : Hid (∀ W g (k : Nat), PackAt W g l S os → k < n → Calls Tryz.prog 14 #[.pointer (some ⟨g, 0, none⟩), .int .i64 (k : Int)] W fun e w' => e = .returned (.tuple #[.agg #[.int .i64 (os.getD k zo).1, .string (bs (os.getD k zo).2)], .bool true]) ∧ Below W.heap.size W w') := fun W g k h hk => by
          have := pobject_any (k : Int) h hol
          have e : obv os l.length (k : Int) = .tuple #[.agg #[.int .i64 (os.getD k zo).1, .string (bs (os.getD k zo).2)], .bool true] := by
            unfold obv
            rw [if_pos (by omega)]; rfl
          rw [e] at this
          exact this
        have HNE : Hid (∀ k W, (binOp .neq 43 (.agg #[.int .i64 (os.getD k zo).1, .string (bs (os.getD k zo).2)]) (.agg #[.int .i64 (os.getD k zo).1, .string (bs (os.getD k zo).2)])).run Tryz.prog W = .ok (.bool false) W) := fun k W => by
          have := neqObj (os.getD k zo).1 (os.getD k zo).1 (os.getD k zo).2 (os.getD k zo).2 W
          rw [decide_eq_true ⟨rfl, rfl⟩] at this
          exact this
        have HTk : Hid (∀ k, k < q → (os.take q).getD k zo = os.getD k zo) := fun k hk => by
          rw [List.getD_eq_getElem?_getD, List.getD_eq_getElem?_getD, List.getElem?_take, if_pos hk]
        have HTl : Hid ((os.take q).length = q) := by show _ = _; rw [List.length_take]; omega
        obtain ⟨pd, hpd⟩ : ∃ pd : Nat → Nat, pd = fun k => pend l (4 + (dg l.length).length) 0 k := ⟨_, rfl⟩
        have HPD : Hid (∀ k, pend l (4 + (dg l.length).length) 0 k = pd k) := fun k => by rw [hpd]
        have CSp2 : Hid (∀ W g (k : Nat), PackAt W g l S os → k + 1 < n → Calls Tryz.prog 18 #[.pointer (some ⟨g, 0, none⟩), .int .i64 ((k : Int) + 1)] W fun e w' => e = .returned (.int .i64 (pd k : Nat)) ∧ W = w') := by rw [hpd]; exact CSp.out
        have HLast2 : Hid (∀ k, k + 1 = n → ((pd k : Nat) : Int) = (ss.size : Int) - 4) := by rw [hpd]; exact HLast.out
        have HIff2 : Hid (∀ k, k < n → (pd k ≤ a ↔ k < q)) := by rw [hpd]; exact HIff.out
        have hmod : (c : Int).tmod ((ss.size : Int) + 1) = (a : Int) := by
          rw [hsz, Int.tmod_eq_emod_of_nonneg (by omega), ha]
          rw [show ((d.length : Int) + 1) = ((d.length + 1 : Nat) : Int) by omega, ← Int.natCast_emod]
        have hD1 : IntKind.i64.wrap ((ss.size : Int) + 1) = (ss.size : Int) + 1 := IntWalk.i64_in _ (by omega)
        have hD4 : IntKind.i64.wrap ((ss.size : Int) - 4) = (ss.size : Int) - 4 := IntWalk.i64_in _ (by omega)
        have ha3 : (a : Int) ≤ (ss.size : Int) := by omega
        have ha4 : ¬ ((ss.size : Int) + 1 = 0) := by omega
        have n0' : ¬ (n : Int) = 0 := by omega
        have hn2 : n ≤ 200 := by omega
        have hcw : IntKind.i64.wrap (c : Int) = (c : Int) := IntWalk.i64_in _ (by omega)
        have haw : IntKind.i64.wrap (a : Int) = (a : Int) := IntWalk.i64_in _ (by omega)
        clear hg ht0 hs0 hv hT hC n210 t30 t65 hR hn n200 hok hop hbl hol hd hdl hss hsz hS hSl ha ha2 hq hext CSp HLast HIff hpd HPD n0
        go_enter Tryz.func6, Tryz.ntmps6
        go_wp2_with fail
        refine (CA.out _ TI.out TC.out).mono ?_
        rintro e w1 ⟨rfl, B1⟩
        have L1 := Lib.hid B1
        clear B1
        go_wp2_with fail
        refine (CG.out _ (RowG.below HV.out L1.out)).mono ?_
        rintro e w2 ⟨rfl, B2⟩
        have L2 := Lib.hid (L1.out.trans (B2.mono L1.out.size))
        clear B2 CG
        go_wp2_with fail
        refine (CW.out _ (RowG.below HV.out L2.out) (TI.out.below L2.out) (TC.out.below L2.out)).mono ?_
        rintro e w3 ⟨rfl, B3⟩
        have L3 := Lib.hid (L2.out.trans (B3.mono L2.out.size))
        clear B3 CW
        go_wp2_with fail
        refine (CO.out _ (TI.out.below L3.out) (TC.out.below L3.out)).mono ?_
        rintro e w4 ⟨B4, g4, rfl, P4⟩
        have L4 := Lib.hid (L3.out.trans (B4.mono L3.out.size))
        have HP4 := Lib.hid P4
        clear B4 P4 CO
        go_wp2_with fail
        refine (CS1.out _).mono ?_
        rintro e w5 ⟨ad5, cap5, rfl, B5⟩
        have L5 := Lib.hid (L4.out.trans (B5.mono L4.out.size))
        have HP5 := Lib.hid (HP4.out.below B5)
        clear B5 CS1 HP4
        go_wp2
        go_loopw [11, 10] (fun i b wr => ∃ k j : Nat, i = .int .i64 (k : Int) ∧ b = .int .i64 (j : Int) ∧ k ≤ n ∧ j = min k q ∧ w5 = wr) (fun i _ _ => n - (intOf i).toNat)
        case atStart => exact ⟨0, 0, rfl, rfl, Nat.zero_le _, by omega, rfl⟩
        case round =>
          obtain ⟨k, j, rfl, rfl, hk, hj, rfl⟩ := hrel
          by_cases hlt : k < n
          · have yk : (k : Int) < (n : Int) := by omega
            have w1' : IntKind.i64.wrap ((k : Int) + 1) = (k : Int) + 1 := IntWalk.i64_in _ (by omega)
            have w2' : IntKind.i64.wrap ((j : Int) + 1) = (j : Int) + 1 := IntWalk.i64_in _ (by omega)
            have hif := HIff2.out k hlt
            by_cases h1 : k + 1 < n
            · have yk1 : (k : Int) + 1 < (n : Int) := by omega
              have CK := Lib.hid (CSp2.out _ _ k HP5.out h1)
              generalize pd k = e1 at CK hif
              go_wp2_with fail
              refine CK.out.mono ?_
              rintro e w6 ⟨rfl, rfl⟩
              clear CK
              by_cases h2 : e1 ≤ a
              · have t2 : (e1 : Int) ≤ (a : Int) := by omega
                have jj : j + 1 = min (k + 1) q := by have := hif.1 h2; omega
                go_wp2
                go_roundw
                case rel => exact ⟨k + 1, j + 1, by go_num, by go_num, by omega, jj, trivial⟩
                case measure => simp [intOf]; omega
              · have t2 : ¬ (e1 : Int) ≤ (a : Int) := by omega
                have t3 : (a : Int) < (e1 : Int) := by omega
                have jj : j = min (k + 1) q := by have : ¬ k < q := fun h => h2 (hif.2 h); omega
                go_wp2
                go_roundw
                case rel => exact ⟨k + 1, j, by go_num, (by first | rfl | rw [← hj]), by omega, jj, trivial⟩
                case measure => simp [intOf]; omega
            · have yk1 : ¬ (k : Int) + 1 < (n : Int) := by omega
              have yk2 : (n : Int) ≤ (k : Int) + 1 := by omega
              have hl := HLast2.out k (by omega)
              by_cases h2 : pd k ≤ a
              · have t2 : (ss.size : Int) - 4 ≤ (a : Int) := by omega
                have jj : j + 1 = min (k + 1) q := by have := hif.1 h2; omega
                clear hif hl
                go_wp2
                go_roundw
                case rel => exact ⟨k + 1, j + 1, by go_num, by go_num, by omega, jj, trivial⟩
                case measure => simp [intOf]; omega
              · have t2 : ¬ (ss.size : Int) - 4 ≤ (a : Int) := by omega
                have t3 : (a : Int) < (ss.size : Int) - 4 := by omega
                have jj : j = min (k + 1) q := by have : ¬ k < q := fun h => h2 (hif.2 h); omega
                clear hif hl
                go_wp2
                go_roundw
                case rel => exact ⟨k + 1, j, by go_num, (by first | rfl | rw [← hj]), by omega, jj, trivial⟩
                case measure => simp [intOf]; omega
          · have e : k = n := by omega
            subst e
            have ej : j = q := by omega
            subst ej
            clear hlt hj hk HLast2 HIff2 CSp2
            go_wp2_with fail
            rw [show ss.extract 0 a = bs (d.take a) from HEX.out]
            refine (CS2.out _).mono ?_
            rintro e w6 ⟨v6, rfl, R6, B6⟩
            have L6 := Lib.hid (L5.out.trans (B6.mono L5.out.size))
            have HP6 := Lib.hid (HP5.out.below B6)
            obtain ⟨a6, c6, rfl, h6⟩ := RowO.cells R6
            rw [HTl.out] at h6
            have H6 : Hid (∀ i, i < j → ∃ b o, a6 = some ⟨b, o, none⟩ ∧ b < w6.heap.size ∧ w6.cell? ⟨b, o + i * 2, none⟩ = some (.int .i64 (os.getD i zo).1) ∧ w6.cell? ⟨b, o + i * 2 + 1, none⟩ = some (.string (bs (os.getD i zo).2))) := fun i hi => by
              obtain ⟨b, o, x1, x2, x3, x4⟩ := h6 i hi
              rw [HTk.out i hi] at x3 x4
              exact ⟨b, o, x1, x2, x3, x4⟩
            rw [HTl.out]
            clear B6 R6 h6 CS2 HP5 HEX HTk hmod hD1 hD4 ha3 ha4
            go_wp2
            go_loopw [14] (fun i wr => ∃ k' : Nat, i = .int .i64 (k' : Int) ∧ k' ≤ j ∧ Hid (Below w6.heap.size w6 wr)) (fun i _ => j - (intOf i).toNat)
            case atStart => exact ⟨0, rfl, Nat.zero_le _, Below.refl _ _⟩
            case round =>
              obtain ⟨k', rfl, hk', hB⟩ := hrel
              by_cases hlt : k' < j
              · obtain ⟨b, o, rfl, x2, x3, x4⟩ := H6.out k' hlt
                have yk : (k' : Int) < (j : Int) := by omega
                have y0 : (0 : Int) ≤ (k' : Int) := by omega
                have w1' : IntKind.i64.wrap ((k' : Int) + 1) = (k' : Int) + 1 := IntWalk.i64_in _ (by omega)
                have CK := Lib.hid (COb.out _ _ k' (HP6.out.below hB.out) (by omega))
                have hne := HNE.out k'
                obtain ⟨xk, hxk⟩ : ∃ xk, xk = (os.getD k' zo).1 := ⟨_, rfl⟩
                obtain ⟨xs, hxs⟩ : ∃ xs, xs = bs (os.getD k' zo).2 := ⟨_, rfl⟩
                rw [← hxk] at x3 CK hne
                rw [← hxs] at x4 CK hne
                clear hxk hxs
                go_wp2_with fail
                refine CK.out.mono ?_
                rintro e w7 ⟨rfl, B7⟩
                have hA : Below w7.heap.size w7 (w7.alloc (.cells #[.int .i64 xk, .string xs] 43)) := (Below.refl _ _).alloc (Nat.le_refl _) _
                have L7 := Lib.hid (hB.out.trans (B7.mono hB.out.size))
                have L8 : Hid (Below w6.heap.size w6 (w7.alloc (.cells #[.int .i64 xk, .string xs] 43))) := L7.out.trans (hA.mono L7.out.size)
                have PO : Hid ((w7.alloc (.cells #[.int .i64 xk, .string xs] 43)).heap[w7.heap.size]? = some (.cells #[.int .i64 xk, .string xs] 43 (0, 0))) := heap_alloc_new _ _
                have q0 := cell_of_row _ _ 0 _ _ _ PO.out
                have q1 := cell_of_row _ _ 1 _ _ _ PO.out
                have p0 : (w7.alloc (.cells #[.int .i64 xk, .string xs] 43)).cell? ⟨b, o + k' * 2, none⟩ = some (.int .i64 xk) := by rw [L8.out.cell (p := ⟨b, o + k' * 2, none⟩) x2]; exact x3
                have p1 : (w7.alloc (.cells #[.int .i64 xk, .string xs] 43)).cell? ⟨b, o + k' * 2 + 1, none⟩ = some (.string xs) := by rw [L8.out.cell (p := ⟨b, o + k' * 2 + 1, none⟩) x2]; exact x4
                clear B7 CK x3 x4 hA L7 hB
                go_upto_region 28 with fail
                change Code.wp _ _ _ _ (w7.alloc (.cells #[.int .i64 xk, .string xs] 43))
                generalize hzz : w7.heap.size = z7 at *
                generalize w7.alloc (.cells #[.int .i64 xk, .string xs] 43) = w8 at *
                go_quiet (fail)
                go_wp2
                go_roundw
                case rel => exact ⟨k' + 1, by go_num, by omega, below_drewN L8.out _⟩
                case measure => simp [intOf]; omega
              · have e : k' = j := by omega
                subst e
                have LF := Lib.hid (L6.out.trans (hB.out.mono L6.out.size))
                clear hlt hB H6
                go_wp2_with fail
                refine (CA.out _ (TI.out.below LF.out) (TC.out.below LF.out)).mono ?_
                rintro e w9 ⟨rfl, B9⟩
                have L9 := Lib.hid (LF.out.trans (B9.mono LF.out.size))
                clear B9
                go_wp2
                go_ret
                exact ⟨rfl, L9.out⟩
end Go.Proofs.YtnmjcpoobabjgaaGreatDoor
