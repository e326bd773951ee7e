import Derived.Test.YtnmjcpoobabjgaaGreatDoorY1m
import Derived.Test.YtnmjcpoobabjgaaGreatDoorGJm
import Derived.Test.YtnmjcpoobabjgaaGreatDoorHH
set_option linter.unusedVariables false
set_option linter.unusedSimpArgs false
/- The document's bytes of a pack; the bytes of every list of parts are the document's. -/
namespace Go.Proofs.YtnmjcpoobabjgaaGreatDoor
set_option maxRecDepth 100000
open Go.RowKit Classical
set_option maxHeartbeats 4000000 in
theorem qbody_any {l : List Pt} {v : Value} {w : World} (hv : RowP w v l) (hn : l.length ≤ 200) (hfm : ∀ k, k < l.length → fm (l.getD k zp) (k : Int) = true) (ht : ∀ x ∈ l, x.t.length ≤ 65536) :
    Calls Tryz.prog 35 #[v] w fun e w' => e = .returned (.string (bs (bodyB l))) ∧ Below w.heap.size w w' := by
  obtain ⟨ad, cap, rfl, hc⟩ := RowP.cells hv
  obtain ⟨n, hnl⟩ : ∃ n, n = l.length := ⟨_, rfl⟩
  rw [← hnl] at hc hn hfm ⊢
  have HC : Hid (∀ k, k < n → ∃ b o, ad = some ⟨b, o, none⟩ ∧ b < w.heap.size ∧ w.cell? ⟨b, o + k * 3, none⟩ = some (.bool (l.getD k zp).d) ∧ w.cell? ⟨b, o + k * 3 + 1, none⟩ = some (.int .i64 (l.getD k zp).b) ∧ w.cell? ⟨b, o + k * 3 + 2, none⟩ = some (.string (bs (l.getD k zp).t))) := hc
  obtain ⟨st, hst⟩ : ∃ st : Nat → ByteArray, st = fun k => bs (mark ++ (dg (clamp (n : Int)) ++ pbs (l.take k) 0)) := ⟨_, rfl⟩
  have hsl : ∀ k, k ≤ n → (st k).size ≤ 13200000 := fun k hk => by
    have h1 := pbs_len (M := 65536) (l.take k) 0 (fun x hx => ht x (List.mem_of_mem_take hx))
    have h2 := dg_le6 (clamp_le (n : Int))
    have h3 : (l.take k).length * (65536 + 12) ≤ 200 * (65536 + 12) := Nat.mul_le_mul_right _ (by rw [List.length_take]; omega)
    rw [hst]
    simp only [bs_size, List.length_append, mark, List.length_cons, List.length_nil]
    omega
  have HSL : Hid (∀ k, k ≤ n → (st k).size ≤ 13200000) := hsl
  have HST : Hid (∀ k, k < n → (st k ++ bs (dg (clamp (ahd (l.getD k zp) k)))) ++ bs (tx (l.getD k zp).t) = st (k + 1)) := fun k hk => by
    rw [hst]
    dsimp only
    rw [bs_append, bs_append, pbs_take (by omega)]
    simp only [pbt, List.append_assoc]
  have HS0 : Hid ((⟨#[83, 80, 75, 49]⟩ : ByteArray) ++ bs (dg (clamp (n : Int))) = st 0) := by
    show _ = _
    rw [hst]
    dsimp only
    rw [List.take_zero, show pbs [] 0 = [] from rfl, List.append_nil, ← bs_append]
    rfl
  have HSN : Hid (st n = bs (bodyB l)) := by
    show _ = _
    rw [hst, hnl]
    dsimp only
    rw [List.take_length]; rfl
  have HN0 := Lib.hid (fun W => refnum_any (n : Int) W)
  have HND : Hid (∀ k, k < n → (l.getD k zp).d = true → 0 ≤ (l.getD k zp).b ∧ (l.getD k zp).b < (k : Int) ∧ ahd (l.getD k zp) k = (k : Int) - (l.getD k zp).b) := fun k hk hd => by
    have := fm_delta (hfm k hk) hd
    refine ⟨this.1, this.2.1, ?_⟩
    unfold ahd; rw [hd]; rfl
  have HNP : Hid (∀ k, (l.getD k zp).d = false → ahd (l.getD k zp) k = 0) := fun k hd => by unfold ahd; rw [hd]; rfl
  have HTX : Hid (∀ k, k < n → ∀ W, Calls Tryz.prog 58 #[.string (bs (l.getD k zp).t)] W fun e w' => e = .returned (.string (bs (tx (l.getD k zp).t))) ∧ Below W.heap.size W w') := fun k hk W => reftext_any _ W (by have := ht _ (getD_mem l zp k (by omega)); omega)
  have HTZ : Hid (∀ k, k < n → (bs (tx (l.getD k zp).t)).size ≤ 65542) := fun k hk => by
    have := ht _ (getD_mem l zp k (by omega))
    rw [bs_size, tx_len]
    have := dg_le6 (clamp_le ((l.getD k zp).t.length : Int))
    omega
  have hdz : (bs (dg (clamp (n : Int)))).size ≤ 6 := by rw [bs_size]; exact dg_le6 (clamp_le _)
  have hs0 : ¬ 9223372036854775807 < (⟨#[83, 80, 75, 49]⟩ : ByteArray).size + (bs (dg (clamp (n : Int)))).size := by
    have : (⟨#[83, 80, 75, 49]⟩ : ByteArray).size = 4 := rfl
    omega
  obtain ⟨RV, hRV⟩ : ∃ RV, RV = bs (bodyB l) := ⟨_, rfl⟩
  rw [← hRV] at HSN ⊢
  obtain ⟨d0, hd0⟩ : ∃ d0, d0 = bs (dg (clamp (n : Int))) := ⟨_, rfl⟩
  rw [← hd0] at HS0 HN0 hs0
  clear hst hsl hc hv hnl hfm ht hRV hd0 hdz
  have hs0e := HS0.out
  go_enter Tryz.func35, Tryz.ntmps35
  go_wp2_with fail
  refine (HN0.out _).mono ?_
  rintro e w1 ⟨rfl, B1⟩
  have L1 := Lib.hid B1
  clear B1 HN0
  go_wp2
  try rw [show (⟨#[83, 80, 75, 49]⟩ : ByteArray) ++ d0 = st 0 from HS0.out]
  clear hs0 hs0e HS0
  go_loopw [3, 4] (fun s i wr => ∃ k : Nat, k ≤ n ∧ i = .int .i64 (k : Int) ∧ s = .string (st k) ∧ Hid (Below w.heap.size w wr)) (fun _ i _ => n - (intOf i).toNat)
  case atStart => exact ⟨0, Nat.zero_le _, rfl, rfl, L1⟩
  case round =>
    obtain ⟨k, hk, rfl, rfl, hB⟩ := hrel
    clear L1
    by_cases hlt : k < n
    · have yk : (k : Int) < (n : Int) := by omega
      have y0 : (0 : Int) ≤ (k : Int) := by omega
      have w5 : IntKind.i64.wrap ((k : Int) + 1) = (k : Int) + 1 := IntWalk.i64_in _ (by omega)
      obtain ⟨b, o, rfl, hbl, h0, h1, h2⟩ := HC.out k hlt
      have HX : Hid (∀ W, Below w.heap.size w W → W.cell? ⟨b, o + k * 3, none⟩ = some (.bool (l.getD k zp).d) ∧ W.cell? ⟨b, o + k * 3 + 1, none⟩ = some (.int .i64 (l.getD k zp).b) ∧ W.cell? ⟨b, o + k * 3 + 2, none⟩ = some (.string (bs (l.getD k zp).t))) := fun W hW => by
        refine ⟨?_, ?_, ?_⟩
        · rw [hW.cell (p := ⟨b, o + k * 3, none⟩) hbl]; exact h0
        · rw [hW.cell (p := ⟨b, o + k * 3 + 1, none⟩) hbl]; exact h1
        · rw [hW.cell (p := ⟨b, o + k * 3 + 2, none⟩) hbl]; exact h2
      have STk := Lib.hid (HST.out k hlt)
      have CTk := Lib.hid (HTX.out k hlt)
      have zT := HTZ.out k hlt
      have zS := HSL.out k (by omega)
      have zS1 := HSL.out (k + 1) (by omega)
      have CNk : Hid (∀ W, Calls Tryz.prog 57 #[.int .i64 (ahd (l.getD k zp) k)] W fun e w' => e = .returned (.string (bs (dg (clamp (ahd (l.getD k zp) k))))) ∧ Below W.heap.size W w') := fun W => refnum_any _ W
      have zN : (bs (dg (clamp (ahd (l.getD k zp) k)))).size ≤ 6 := by rw [bs_size]; exact dg_le6 (clamp_le _)
      have DD := Lib.hid (HND.out k hlt)
      have DP := Lib.hid (HNP.out k)
      obtain ⟨ak, hak⟩ : ∃ ak, ak = ahd (l.getD k zp) k := ⟨_, rfl⟩
      obtain ⟨nb, hnb⟩ : ∃ nb, nb = bs (dg (clamp (ahd (l.getD k zp) k))) := ⟨_, rfl⟩
      obtain ⟨tb', htb⟩ : ∃ tb', tb' = bs (tx (l.getD k zp).t) := ⟨_, rfl⟩
      rw [← hnb] at STk zN CNk
      rw [← htb] at STk CTk zT
      rw [← hak] at CNk DD DP
      obtain ⟨xd, hxd⟩ : ∃ xd, xd = (l.getD k zp).d := ⟨_, rfl⟩
      obtain ⟨xb, hxb⟩ : ∃ xb, xb = (l.getD k zp).b := ⟨_, rfl⟩
      obtain ⟨xt, hxt⟩ : ∃ xt, xt = bs (l.getD k zp).t := ⟨_, rfl⟩
      rw [← hxd, ← hxb, ← hxt] at HX
      rw [← hxd, ← hxb] at DD
      rw [← hxd] at DP
      rw [← hxt] at CTk
      have s1 : ¬ 9223372036854775807 < (st k).size + nb.size := by omega
      obtain ⟨sn, hsn⟩ : ∃ sn, sn = st k ++ nb := ⟨_, rfl⟩
      have zsn : sn.size = (st k).size + nb.size := by rw [hsn]; exact ByteArray.size_append
      have s2 : ¬ 9223372036854775807 < sn.size + tb'.size := by omega
      rw [← hsn] at STk
      have ST2 := STk.out
      obtain ⟨c0, c1, c2⟩ := HX.out wr hB.out
      clear hak hnb htb hxd hxb hxt h0 h1 h2 zS zS1 zT zN
      cases xd with
      | true =>
        obtain ⟨e1, e2, e3⟩ := DD.out rfl
        have wd : IntKind.i64.wrap ((k : Int) - xb) = (k : Int) - xb := IntWalk.i64_in _ (by omega)
        rw [e3] at CNk
        clear DD DP e3
        go_wp2_with fail
        refine (CNk.out _).mono ?_
        rintro e w2 ⟨rfl, B2⟩
        have L2 := Lib.hid (hB.out.trans (B2.mono hB.out.size))
        obtain ⟨a0, a1, a2⟩ := HX.out w2 L2.out
        clear B2 CNk c0 c1 c2
        go_wp2_with fail
        try rw [show st k ++ nb = sn from hsn.symm]
        refine (CTk.out _).mono ?_
        rintro e w3 ⟨rfl, B3⟩
        have L3 := Lib.hid (L2.out.trans (B3.mono L2.out.size))
        clear B3 CTk a0 a1 a2
        go_wp2
        try rw [show sn ++ tb' = st (k + 1) from ST2]
        go_roundw
        case rel => exact ⟨k + 1, by omega, by go_num, (by first | rfl | rw [← hsn, ST2]), L3⟩
        case measure => simp [intOf]; omega
      | false =>
        have e3 := DP.out rfl
        rw [e3] at CNk
        clear DD DP e3
        go_wp2_with fail
        refine (CNk.out _).mono ?_
        rintro e w2 ⟨rfl, B2⟩
        have L2 := Lib.hid (hB.out.trans (B2.mono hB.out.size))
        obtain ⟨a0, a1, a2⟩ := HX.out w2 L2.out
        clear B2 CNk c0 c1 c2
        go_wp2_with fail
        try rw [show st k ++ nb = sn from hsn.symm]
        refine (CTk.out _).mono ?_
        rintro e w3 ⟨rfl, B3⟩
        have L3 := Lib.hid (L2.out.trans (B3.mono L2.out.size))
        clear B3 CTk a0 a1 a2
        go_wp2
        try rw [show sn ++ tb' = st (k + 1) from ST2]
        go_roundw
        case rel => exact ⟨k + 1, by omega, by go_num, (by first | rfl | rw [← hsn, ST2]), L3⟩
        case measure => simp [intOf]; omega
    · have e : k = n := by omega
      subst e
      have LF := Lib.hid hB.out
      rw [HSN.out]
      clear hlt hB
      go_wp2
      go_ret
      exact ⟨rfl, LF.out⟩
theorem refseal_l (s : List UInt8) (w : World) (hs : s.length ≤ 1073741824) : Calls Tryz.prog 34 #[.string (bs s)] w fun e w' => e = .returned (.string (bs (sealL s))) ∧ Below w.heap.size w w' := by
  have := Cr.refseal_any (bs s) w (by rw [bs_size]; exact hs)
  rw [sealS_bs] at this
  exact this
theorem qwrite_any10 {l : List Pt} {v : Value} {w : World} (hv : RowP w v l) (hn : l.length ≤ 200) (hfm : ∀ k, k < l.length → fm (l.getD k zp) (k : Int) = true) (ht : ∀ x ∈ l, x.t.length ≤ 65536) :
    Calls Tryz.prog 11 #[v] w fun e w' => e = .returned (.string (bs (sealL (bodyB l)))) ∧ Below w.heap.size w w' := by
  have C1 := Lib.hid (fun (_ : Unit) => qbody_any hv hn hfm ht)
  have hl := body_len hn ht
  have C2 := Lib.hid (fun W => refseal_l (bodyB l) W (by omega))
  obtain ⟨ad, cap, rfl⟩ := RowG.len hv
  generalize bs (bodyB l) = b1 at *
  generalize bs (sealL (bodyB l)) = b2 at *
  clear hv hfm ht hl
  go_enter Tryz.func11, Tryz.ntmps11
  go_wp2_with fail
  refine (C1.out ()).mono ?_
  rintro e w1 ⟨rfl, B1⟩
  have L1 := Lib.hid B1
  clear B1 C1
  go_wp2_with fail
  refine (C2.out _).mono ?_
  rintro e w2 ⟨rfl, B2⟩
  have L2 := Lib.hid (L1.out.trans (B2.mono L1.out.size))
  clear B2 C2
  go_wp2
  go_ret
  exact ⟨rfl, L2.out⟩
set_option maxHeartbeats 8000000 in
theorem packwrites_any {l : List Pt} {v : Value} {w : World} (hv : RowP w v l) (hT : Tie w) (hC : TieC w) (ht0 : ∀ x ∈ l, x.t.length ≤ 140737488355328) (hs0 : l.length ≤ 9223372036854775807) :
    Calls Tryz.prog 3 #[v] w fun e w' => e = .returned (.bool true) ∧ Below w.heap.size w w' := by
  have CA : Hid (∀ W, Tie W → TieC W → _) := Lib.hid (fun W h k => palive_any W h k)
  have CG : Hid (∀ W, RowP W v l → _) := Lib.hid (fun W h => great9_any (w := W) h ht0 hs0)
  have HV := Lib.hid hv
  have TI := Lib.hid hT
  have TC := Lib.hid hC
  obtain ⟨av, nv, cv, rfl⟩ : ∃ ad n cap, v = .slice ad n cap := by
    obtain ⟨x1, x2, x3⟩ := RowG.len hv
    exact ⟨_, _, _, x3⟩
  cases hg : greatP l with
  | true =>
    rw [hg] at CG
    clear hg ht0 hs0 hv hT hC
    go_enter Tryz.func3, Tryz.ntmps3
    go_wp2_with fail
    refine (CA.out _ TI.out TC.out).mono ?_
    rintro e w1 ⟨rfl, B1⟩
    have L1 := Lib.hid B1
    clear B1
    go_wp2_with fail
    refine (CG.out _ (RowG.below HV.out L1.out)).mono ?_
    rintro e w2 ⟨rfl, B2⟩
    have L2 := Lib.hid (L1.out.trans (B2.mono L1.out.size))
    clear B2
    go_wp2_with fail
    refine (CA.out _ (TI.out.below L2.out) (TC.out.below L2.out)).mono ?_
    rintro e w3 ⟨rfl, B3⟩
    have L3 := Lib.hid (L2.out.trans (B3.mono L2.out.size))
    clear B3
    go_wp2
    go_ret
    exact ⟨rfl, L3.out⟩
  | false =>
    rw [hg] at CG
    obtain ⟨n210, t30⟩ := greatP_no hg
    have t65 : ∀ x ∈ l, x.t.length ≤ 65536 := fun x hx => by have := t30 x hx; omega
    have CO : Hid (∀ W, RowP W (.slice av nv cv) l → _) := Lib.hid (fun W h => qof_any (w := W) h (by omega) (fun x hx => by have := t30 x hx; omega))
    cases hR : packR l with
    | none =>
      have CW : Hid (∀ W, RowP W (.slice av nv cv) l → Tie W → TieC W → Calls Tryz.prog 9 #[.slice av nv cv] W fun e w' => e = .returned (.tuple #[.string ⟨#[]⟩, .int .i64 1]) ∧ Below W.heap.size W w') := fun W h1 h2 h3 => by
        have := pwrite_any h1 h2 h3 (by omega) t65
        unfold wrv at this
        rw [hR] at this
        exact this
      rw [hR] at CO
      clear hg ht0 hs0 hv hT hC n210 t30 t65 hR
      go_enter Tryz.func3, Tryz.ntmps3
      go_wp2_with fail
      refine (CA.out _ TI.out TC.out).mono ?_
      rintro e w1 ⟨rfl, B1⟩
      have L1 := Lib.hid B1
      clear B1
      go_wp2_with fail
      refine (CG.out _ (RowG.below HV.out L1.out)).mono ?_
      rintro e w2 ⟨rfl, B2⟩
      have L2 := Lib.hid (L1.out.trans (B2.mono L1.out.size))
      clear B2 CG
      go_wp2_with fail
      refine (CW.out _ (RowG.below HV.out L2.out) (TI.out.below L2.out) (TC.out.below L2.out)).mono ?_
      rintro e w3 ⟨rfl, B3⟩
      have L3 := Lib.hid (L2.out.trans (B3.mono L2.out.size))
      clear B3 CW
      go_wp2_with fail
      refine (CO.out _ (RowG.below HV.out L3.out)).mono ?_
      rintro e w4 ⟨B4, ⟨os, h, -⟩ | ⟨-, ao, no, co, ad, nd, cd, rfl⟩⟩
      · cases h
      · have L4 := Lib.hid (L3.out.trans (B4.mono L3.out.size))
        have hA : Below w4.heap.size w4 (w4.alloc (.cells #[.slice av nv cv, .slice none 0 0, .slice ao no co, .slice ad nd cd] 32)) := (Below.refl _ _).alloc (Nat.le_refl _) _
        have L5 := Lib.hid (L4.out.trans (hA.mono L4.out.size))
        clear B4 CO hA
        go_wp2_with fail
        refine (CA.out _ (TI.out.below L5.out) (TC.out.below L5.out)).mono ?_
        rintro e w6 ⟨rfl, B6⟩
        have L6 := Lib.hid (L5.out.trans (B6.mono L5.out.size))
        clear B6
        go_wp2
        go_ret
        exact ⟨rfl, L6.out⟩
    | some os =>
      obtain ⟨n200, hfm⟩ := right_fm (pack_right hR).1
      obtain ⟨ss, hss⟩ : ∃ ss, ss = bs (sealL (bodyB l)) := ⟨_, rfl⟩
      have CW : Hid (∀ W, RowP W (.slice av nv cv) l → Tie W → TieC W → Calls Tryz.prog 9 #[.slice av nv cv] W fun e w' => e = .returned (.tuple #[.string ss, .int .i64 0]) ∧ Below W.heap.size W w') := fun W h1 h2 h3 => by
        have := pwrite_any h1 h2 h3 (by omega) t65
        unfold wrv at this
        rw [hR] at this
        dsimp only at this
        rw [← hss] at this
        exact this
      have CQ : Hid (∀ W, RowP W (.slice av nv cv) l → Calls Tryz.prog 11 #[.slice av nv cv] W fun e w' => e = .returned (.string ss) ∧ Below W.heap.size W w') := fun W h => by
        have := qwrite_any10 h n200 hfm t65
        rw [← hss] at this
        exact this
      rw [hR] at CO
      clear hg ht0 hs0 hv hT hC n210 t30 t65 hR n200 hfm hss
      go_enter Tryz.func3, Tryz.ntmps3
      go_wp2_with fail
      refine (CA.out _ TI.out TC.out).mono ?_
      rintro e w1 ⟨rfl, B1⟩
      have L1 := Lib.hid B1
      clear B1
      go_wp2_with fail
      refine (CG.out _ (RowG.below HV.out L1.out)).mono ?_
      rintro e w2 ⟨rfl, B2⟩
      have L2 := Lib.hid (L1.out.trans (B2.mono L1.out.size))
      clear B2 CG
      go_wp2_with fail
      refine (CW.out _ (RowG.below HV.out L2.out) (TI.out.below L2.out) (TC.out.below L2.out)).mono ?_
      rintro e w3 ⟨rfl, B3⟩
      have L3 := Lib.hid (L2.out.trans (B3.mono L2.out.size))
      clear B3 CW
      go_wp2_with fail
      refine (CO.out _ (RowG.below HV.out L3.out)).mono ?_
      rintro e w4 ⟨B4, ⟨os', -, vo, vd, rfl, ro, rd⟩ | ⟨h, -⟩⟩
      · have L4 := Lib.hid (L3.out.trans (B4.mono L3.out.size))
        obtain ⟨ao, no, co, rfl⟩ : ∃ ad n cap, vo = .slice ad n cap := by
          obtain ⟨x1, x2, x3⟩ := RowG.len ro
          exact ⟨_, _, _, x3⟩
        obtain ⟨ad, nd, cd, rfl⟩ : ∃ ad n cap, vd = .slice ad n cap := by
          obtain ⟨x1, x2, x3⟩ := RowG.len rd
          exact ⟨_, _, _, x3⟩
        have hA : Below w4.heap.size w4 (w4.alloc (.cells #[.slice av nv cv, .slice none 0 0, .slice ao no co, .slice ad nd cd] 32)) := (Below.refl _ _).alloc (Nat.le_refl _) _
        have L5 := Lib.hid (L4.out.trans (hA.mono L4.out.size))
        clear B4 CO hA ro rd
        go_wp2_with fail
        refine (CA.out _ (TI.out.below L5.out) (TC.out.below L5.out)).mono ?_
        rintro e w6 ⟨rfl, B6⟩
        have L6 := Lib.hid (L5.out.trans (B6.mono L5.out.size))
        clear B6
        go_wp2_with fail
        refine (CQ.out _ (RowG.below HV.out L6.out)).mono ?_
        rintro e w7 ⟨rfl, B7⟩
        have L7 := Lib.hid (L6.out.trans (B7.mono L6.out.size))
        clear B7
        go_wp2
        go_ret
        exact ⟨rfl, L7.out⟩
      · cases h
end Go.Proofs.YtnmjcpoobabjgaaGreatDoor
