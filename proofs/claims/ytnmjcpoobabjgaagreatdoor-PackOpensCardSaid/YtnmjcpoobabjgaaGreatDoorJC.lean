import Derived.Test.YtnmjcpoobabjgaaGreatDoorY1m
import Derived.Test.YtnmjcpoobabjgaaGreatDoorQ1m
set_option linter.unusedVariables false
set_option linter.unusedSimpArgs false
/- The document's reading of parts. -/
namespace Go.Proofs.YtnmjcpoobabjgaaGreatDoor
set_option maxRecDepth 100000
open Go.RowKit Classical
/- what the whole comes to, said from where the reading stands: parts, spots, the place of the end -/
def Qst (d : List UInt8) (n p : Nat) (L : List Pt) (S : List Nat) : List Pt × List Nat × Nat :=
  (L ++ (rps d (n - L.length) p L.length).1, S ++ (rps d (n - L.length) p L.length).2.1, (rps d (n - L.length) p L.length).2.2.1)
theorem Qst.full {d : List UInt8} {n p : Nat} {L : List Pt} {S : List Nat} (h : L.length = n) : Qst d n p L S = (L, S, p) := by
  unfold Qst
  rw [h, Nat.sub_self, rps]
  simp
theorem Qst.step {d : List UInt8} {n p : Nat} {L : List Pt} {S : List Nat} (h : L.length < n) (h0 : (rpt d p L.length).2.2 = 0) : Qst d n p L S = Qst d n (rpt d p L.length).2.1 (L ++ [(rpt d p L.length).1]) (S ++ [p]) := by
  unfold Qst
  rw [show n - L.length = (n - (L ++ [(rpt d p L.length).1]).length) + 1 by simp; omega, rps, if_pos h0]
  simp
theorem Qst.bad {d : List UInt8} {n p : Nat} {L : List Pt} {S : List Nat} (h : L.length < n) (h0 : (rpt d p L.length).2.2 ≠ 0) : Qst d n p L S = (L, S, p) := by
  unfold Qst
  rw [show n - L.length = (n - L.length - 1) + 1 by omega, rps, if_neg h0]
  simp
structure QSt (d : List UInt8) (R : List Pt × List Nat × Nat) (w : World) (n p : Nat) (L : List Pt) (S : List Nat) (vl vs : Value) (W : World) : Prop where
  b0 : Below w.heap.size w W
  rd : Rq W w.heap.size d p 0
  hp : p ≤ d.length
  op : OwnP W (w.heap.size + 1) vl L
  on : OwnN W (w.heap.size + 1) vs S
  sp : Sep vl vs
  ls : S.length = L.length
  hn : L.length ≤ n
  hR : R = Qst d n p L S
theorem results_tmp5 {fn : Func} {a b c d e : Tmp} (h : fn.results = #[.tmp a, .tmp b, .tmp c, .tmp d, .tmp e]) (tmps : Array Value) (P : Program) (w : World) :
    (results fn tmps).run P w = .ok (.tuple #[tmps.getD a undef, tmps.getD b undef, tmps.getD c undef, tmps.getD d undef, tmps.getD e undef]) w := by
  simp [results, h]
set_option maxHeartbeats 8000000 in
theorem qpread_any (d : List UInt8) (w : World) (hd : d.length ≤ 281474976710656) :
    Calls Tryz.prog 40 #[.string (bs d)] w fun e w' => Below w.heap.size w w' ∧
      ((¬ (d.take 4 = mark ∧ (rNum 200 d 4 0).2.2 = 0) ∧ e = .returned (.tuple #[.slice none 0 0, .slice none 0 0, .int .i64 0, .int .i64 0, .bool false])) ∨
       ((d.take 4 = mark ∧ (rNum 200 d 4 0).2.2 = 0) ∧ ∃ vl vs, e = .returned (.tuple #[vl, vs, .int .i64 ((rNum 200 d 4 0).1 : Int), .int .i64 ((rps d (rNum 200 d 4 0).1 (rNum 200 d 4 0).2.1 0).2.2.1 : Int), .bool true]) ∧ OwnP w' w.heap.size vl (rps d (rNum 200 d 4 0).1 (rNum 200 d 4 0).2.1 0).1 ∧ OwnN w' w.heap.size vs (rps d (rNum 200 d 4 0).1 (rNum 200 d 4 0).2.1 0).2.1)) := by
  obtain ⟨bd, hbd⟩ : ∃ bd, bd = bs d := ⟨_, rfl⟩
  have hz : bd.size = d.length := by rw [hbd, bs_size]
  rw [← hbd]
  by_cases h4 : d.length < 4
  · have hc : ¬ (d.take 4 = mark ∧ (rNum 200 d 4 0).2.2 = 0) := fun c => by
      have := congrArg List.length c.1
      rw [List.length_take] at this
      simp [mark] at this
      omega
    obtain ⟨Q, hQ⟩ : ∃ Q : Prop, Q = (d.take 4 = mark ∧ (rNum 200 d 4 0).2.2 = 0) := ⟨_, rfl⟩
    rw [← hQ] at hc ⊢
    have HC : Hid (¬ Q) := hc
    have t1 : (bd.size : Int) < 4 := by omega
    clear hc hQ hbd hz h4 hd
    go_enter Tryz.func40, Tryz.ntmps40
    go_wp2
    try simp only [Exit.inBlock, Exit.then]
    refine bodyPost_ret (results_tmp5 rfl _ _ _) rfl ?_
    exact ⟨Below.refl _ _, Or.inl ⟨HC.out, rfl⟩⟩
  · have hex : bd.extract 0 4 = bs (d.take 4) := by rw [hbd, bs_extract, List.drop_zero, Nat.sub_zero]
    have heq : (bd.extract 0 4).toList = d.take 4 := by
      rw [hex, ByteArray.toList_eq]
      simp [bs]
    have t1 : (4 : Int) ≤ (bd.size : Int) := by omega
    have t1' : ¬ (bd.size : Int) < 4 := by omega
    by_cases hm : d.take 4 = mark
    · have heq2 : ((bd.extract 0 4).toList == [83, 80, 75, 49]) = true := by rw [heq, hm]; rfl
      obtain ⟨n, p1, e1, h1⟩ : ∃ n p1 e1, rNum 200 d 4 0 = (n, p1, e1) := ⟨_, _, _, rfl⟩
      have hp1 : p1 ≤ d.length := by have := rNum_le 200 d 4 0 (by omega); rw [h1] at this; exact this
      have hn2 : n ≤ 200 := by have := (num_value 200 d 4 (by decide)).1; rw [h1] at this; dsimp only at this; omega
      rw [h1]
      dsimp only
      have CN : Hid (∀ W r, Rq W r d 4 0 → Calls Tryz.prog 66 #[.pointer (some ⟨r, 0, none⟩), .int .i64 200] W fun v w' => v = .returned (.int .i64 (n : Int)) ∧ Rq w' r d p1 e1 ∧ Keep (fun k => k ≠ r) W w') := fun W r hW => by
        have := qnum_any (200 : Int) hW (by omega) hd
        rw [h1] at this
        exact this
      have R0 : Hid (Rq (w.alloc (.cells #[.string bd, .int .i64 4, .int .i64 0] 108)) w.heap.size d 4 0) := by
        show Rq _ _ _ _ _
        rw [hbd]
        exact heap_alloc_new _ _
      have A0 : Hid (Keep (fun k => k < w.heap.size) w (w.alloc (.cells #[.string bd, .int .i64 4, .int .i64 0] 108))) := (Keep.refl _ w).alloc _
      obtain ⟨R, hR⟩ : ∃ R, R = rps d n p1 0 := ⟨_, rfl⟩
      rw [← hR]
      have HD := Lib.hid hd
      by_cases he : e1 = 0
      · subst he
        obtain ⟨R3, hR3⟩ : ∃ R3 : List Pt × List Nat × Nat, R3 = (R.1, R.2.1, R.2.2.1) := ⟨_, rfl⟩
        have HR3 : Hid (R3 = Qst d n p1 [] []) := by show _ = _; rw [hR3, hR]; unfold Qst; simp
        have e13 : R.1 = R3.1 := by rw [hR3]
        have e23 : R.2.1 = R3.2.1 := by rw [hR3]
        have e33 : R.2.2.1 = R3.2.2 := by rw [hR3]
        rw [e13, e23, e33]
        have HM : Hid (d.take 4 = mark ∧ (0 : Int) = 0) := ⟨hm, rfl⟩
        have HP1 := Lib.hid hp1
        clear e13 e23 e33 hR3 hR hex heq hbd hz h4 h1 hp1 hm hd
        obtain ⟨R, hRR⟩ : ∃ R, R = R3 := ⟨_, rfl⟩
        subst hRR
        go_enter Tryz.func40, Tryz.ntmps40
        go_wp2_with fail
        refine (CN.out _ _ R0.out).mono ?_
        rintro e w1 ⟨rfl, R1, K1⟩
        have HS0 : Hid (QSt d R w n p1 [] [] (.slice none 0 0) (.slice none 0 0) w1) :=
          ⟨((A0.out.trans (K1.mono (fun k hk _ => by omega))).below (Nat.le_refl _)), R1, HP1.out, OwnG.nil _ _ _ _ _ _, OwnG.nil _ _ _ _ _ _, fun g hg => (by cases hg), rfl, Nat.zero_le _, HR3.out⟩
        obtain ⟨x0, x1, x2, x3, x4⟩ := R1.cells
        clear R1 K1 CN R0 A0 heq2 t1 t1' x0 x3 x4 HR3 HP1
        go_wp2
        clear x1 x2
        go_loopw [9, 10, 11] (fun vl vs i wr => ∃ (p : Nat) (L : List Pt) (S : List Nat) (al : Option Addr) (nl cl : Nat) (as_ : Option Addr) (ns cs : Nat), vl = .slice al nl cl ∧ vs = .slice as_ ns cs ∧ i = .int .i64 (L.length : Int) ∧ nl = L.length ∧ ns = S.length ∧ Hid (QSt d R w n p L S (.slice al nl cl) (.slice as_ ns cs) wr)) (fun _ _ i _ => n - (intOf i).toNat)
        case atStart => exact ⟨p1, [], [], _, _, _, _, _, _, rfl, rfl, rfl, rfl, rfl, HS0⟩
        case round =>
          obtain ⟨p, L, S, al, nl, cl, as_, ns, cs, rfl, rfl, rfl, hnl, hns, HS⟩ := hrel
          have HNL := Lib.hid hnl
          have HNS := Lib.hid hns
          clear HS0 hnl hns
          by_cases hlt : L.length < n
          · have yk : (L.length : Int) < (n : Int) := by omega
            have w5 : IntKind.i64.wrap ((L.length : Int) + 1) = (L.length : Int) + 1 := IntWalk.i64_in _ (by omega)
            obtain ⟨n1, p2, e1, h1⟩ : ∃ n1 p1 e1, rNum 200 d p 0 = (n1, p1, e1) := ⟨_, _, _, rfl⟩
            obtain ⟨t, p2, e2, h2⟩ : ∃ t p3 e2, rText 65536 d p2 e1 = (t, p3, e2) := ⟨_, _, _, rfl⟩
            rename_i p2'
            have hp2 : p2' ≤ d.length := by have := rNum_le 200 d p 0 HS.out.hp; rw [h1] at this; exact this
            have hn1 : n1 ≤ 200 := by have := (num_value 200 d p (by decide)).1; rw [h1] at this; dsimp only at this; omega
            have hRp : rpt d p L.length = (⟨decide (0 < n1), if 0 < n1 then (L.length : Int) - (n1 : Int) else 0, t⟩, p2, e2) := by unfold rpt; rw [h1]; dsimp only; rw [h2]
            have HX : Hid ((rpt d p L.length).1 = ⟨decide (0 < n1), if 0 < n1 then (L.length : Int) - (n1 : Int) else 0, t⟩) := by show _ = _; rw [hRp]
            have HE2 : Hid ((rpt d p L.length).2.2 = e2) := by show _ = _; rw [hRp]
            have HPP : Hid ((rpt d p L.length).2.1 = p2) := by show _ = _; rw [hRp]
            have HP2 : Hid (e2 = 0 → p2 ≤ d.length) := fun h => by have := (rpt_there HS.out.hp (i := L.length) (by rw [hRp]; exact h)).2.1; rw [hRp] at this; exact this
            have C1 : Hid (∀ W, Rq W w.heap.size d p 0 → Calls Tryz.prog 66 #[.pointer (some ⟨w.heap.size, 0, none⟩), .int .i64 200] W fun v w' => v = .returned (.int .i64 (n1 : Int)) ∧ Rq w' w.heap.size d p2' e1 ∧ Keep (fun k => k ≠ w.heap.size) W w') := fun W hW => by
              have := qnum_any (200 : Int) hW HS.out.hp HD.out
              rw [h1] at this
              exact this
            have C2 : Hid (∀ W, Rq W w.heap.size d p2' e1 → Calls Tryz.prog 51 #[.pointer (some ⟨w.heap.size, 0, none⟩), .int .i64 65536] W fun v w' => v = .returned (.string (bs t)) ∧ Rq w' w.heap.size d p2 e2 ∧ Keep (fun k => k ≠ w.heap.size) W w') := fun W hW => by
              have := qtext_any (65536 : Int) hW hp2 HD.out
              rw [h2] at this
              exact this
            obtain ⟨ts, hts⟩ : ∃ ts, ts = bs t := ⟨_, rfl⟩
            rw [← hts] at C2
            have HTS := Lib.hid hts
            obtain ⟨x0, x1, x2, x3, x4⟩ := HS.out.rd.cells
            clear h1 h2 hRp hts x0 x2 x3 x4 hp2
            go_wp2_with fail
            refine (C1.out _ HS.out.rd).mono ?_
            rintro e w3 ⟨rfl, R3, K3⟩
            have HR3' := Lib.hid R3
            have HK3 := Lib.hid K3
            clear R3 K3 C1 x1
            go_wp2_with fail
            refine (C2.out _ HR3'.out).mono ?_
            rintro e w4 ⟨rfl, R4, K4⟩
            have HR4 := Lib.hid R4
            have KK : Keep (fun k => k ≠ w.heap.size) wr w4 := HK3.out.trans K4
            have M2 : Hid (OwnP w4 (w.heap.size + 1) (.slice al nl cl) L) := HS.out.op.keep KK (fun g hg => by show g ≠ _; omega)
            have M3 : Hid (OwnN w4 (w.heap.size + 1) (.slice as_ ns cs) S) := HS.out.on.keep KK (fun g hg => by show g ≠ _; omega)
            have M4 : Hid (Below w.heap.size w w4) := ((Keep.of_below HS.out.b0 (fun k hk _ => hk) : Keep (fun k => k < w.heap.size) w wr).trans (KK.mono (fun k hk _ => by omega))).below (Nat.le_refl _)
            obtain ⟨x0, x1, x2, x3, x4⟩ := R4.cells
            clear R4 K4 C2 HR3' HK3 KK x0 x1 x3 x4
            have hB : True := trivial
            by_cases h0 : e2 = 0
            · subst h0
              have h0 : (0 : Int) = 0 := rfl
              by_cases c : 0 < n1
              · have cd : (0 : Int) < (n1 : Int) := by omega
                have cw : IntKind.i64.wrap ((L.length : Int) - (n1 : Int)) = (L.length : Int) - (n1 : Int) := IntWalk.i64_in _ (by omega)
                have q0 : ∀ o, (w4.alloc o).heap[w4.heap.size]? = some o := fun o => heap_alloc_new _ _
                have HB5 : Hid (Below w4.heap.size w4 (w4.alloc (.cells #[.bool true, .int .i64 ((L.length : Int) - (n1 : Int)), .string ts] 60))) := (Below.refl _ _).alloc (Nat.le_refl _) _
                have P5 : Hid ((w4.alloc (.cells #[.bool true, .int .i64 ((L.length : Int) - (n1 : Int)), .string ts] 60)).heap[w4.heap.size]? = some (.cells #[.bool true, .int .i64 ((L.length : Int) - (n1 : Int)), .string ts] 60 (0, 0))) := heap_alloc_new _ _
                have HX2 : Hid ((rpt d p L.length).1 = ⟨true, ((L.length : Int) - (n1 : Int)), t⟩) := by show _ = _; rw [HX.out]; first | (rw [if_pos c, decide_eq_true c]) | (rw [if_neg c, decide_eq_false c])
                obtain ⟨W5, hW5⟩ : ∃ W5, W5 = (w4.alloc (.cells #[.bool true, .int .i64 ((L.length : Int) - (n1 : Int)), .string ts] 60)) := ⟨_, rfl⟩
                rw [← hW5] at HB5 P5
                have O5 := Lib.hid (OwnG.all M2.out HB5.out)
                have N5 := Lib.hid (OwnG.all M3.out HB5.out)
                obtain ⟨b1, k1, W6, hr1, O6, N6, S6, B6⟩ := app_ps (rpt d p L.length).1 O5.out N5.out HS.out.sp (by have := M4.out.size; have := HB5.out.size; have := HR4.out.lt; omega) (by have := HS.out.hn; omega)
                obtain ⟨b2, k2, W7, hr2, N7, O7, S7, B7⟩ := app_ns p N6 O6 S6.symm (by have := B6.size; have := HB5.out.size; have := HR4.out.lt; omega) (by have := HS.out.hn; have := HS.out.ls; omega)
                have HLL : Hid ((L ++ [(rpt d p L.length).1]).length ≤ n) := by
                  show _ ≤ _
                  rw [List.length_append]
                  exact hlt
                have B67 : Below (w.heap.size + 1) W5 W7 := B6.trans B7
                have HS7 : Hid (QSt d R w n p2 (L ++ [(rpt d p L.length).1]) (S ++ [p]) (.slice (some ⟨b1, 0, none⟩) (L.length + 1) k1) (.slice (some ⟨b2, 0, none⟩) (S.length + 1) k2) W7) :=
                  ⟨(M4.out.trans (HB5.out.mono M4.out.size)).trans (B67.mono (by omega)), by unfold Rq; rw [B67.block _ (by omega), HB5.out.block _ HR4.out.lt]; exact HR4.out, HP2.out h0, O7, N7, S7.symm, by simp [HS.out.ls], HLL.out, by rw [HS.out.hR, Qst.step hlt HE2.out, HPP.out]⟩
                rw [HX2.out] at hr1 HS7
                have g0 := cell_of_row _ _ 0 _ _ _ P5.out
                have g1 := cell_of_row _ _ 1 _ _ _ P5.out
                have g2 := cell_of_row _ _ 2 _ _ _ P5.out
                rw [← HTS.out] at hr1
                dsimp only at hr1
                clear O6 N6 S6 B6 N7 O7 S7 B7 B67 M2 M3 M4 HR4 hB
                go_upto_region 21 with fail
                try rw [← hW5]
                clear hW5
                go_wp2_with (at_builtin; first | refine wpList_append_run rfl (.tmp 65) (.tmp 67) 22 22 rfl _ _ _ _ rfl rfl hr1 ?_ | refine wpList_append_run rfl (.tmp 69) (.tmp 71) 28 28 rfl _ _ _ _ rfl rfl hr2 ?_)
                clear hr1 hr2
                go_wp2
                go_roundw
                case rel => exact ⟨p2, _, _, _, _, _, _, _, _, rfl, rfl, by rw [List.length_append, List.length_singleton]; go_num, by rw [List.length_append, List.length_singleton], by rw [List.length_append, List.length_singleton], HS7⟩
                case measure => simp [intOf]; omega
              · have cd : (n1 : Int) ≤ 0 := by omega
                have HB5 : Hid (Below w4.heap.size w4 (w4.alloc (.cells #[.bool false, .int .i64 0, .string ts] 60))) := (Below.refl _ _).alloc (Nat.le_refl _) _
                have P5 : Hid ((w4.alloc (.cells #[.bool false, .int .i64 0, .string ts] 60)).heap[w4.heap.size]? = some (.cells #[.bool false, .int .i64 0, .string ts] 60 (0, 0))) := heap_alloc_new _ _
                have HX2 : Hid ((rpt d p L.length).1 = ⟨false, 0, t⟩) := by show _ = _; rw [HX.out]; first | (rw [if_pos c, decide_eq_true c]) | (rw [if_neg c, decide_eq_false c])
                obtain ⟨W5, hW5⟩ : ∃ W5, W5 = (w4.alloc (.cells #[.bool false, .int .i64 0, .string ts] 60)) := ⟨_, rfl⟩
                rw [← hW5] at HB5 P5
                have O5 := Lib.hid (OwnG.all M2.out HB5.out)
                have N5 := Lib.hid (OwnG.all M3.out HB5.out)
                obtain ⟨b1, k1, W6, hr1, O6, N6, S6, B6⟩ := app_ps (rpt d p L.length).1 O5.out N5.out HS.out.sp (by have := M4.out.size; have := HB5.out.size; have := HR4.out.lt; omega) (by have := HS.out.hn; omega)
                obtain ⟨b2, k2, W7, hr2, N7, O7, S7, B7⟩ := app_ns p N6 O6 S6.symm (by have := B6.size; have := HB5.out.size; have := HR4.out.lt; omega) (by have := HS.out.hn; have := HS.out.ls; omega)
                have HLL : Hid ((L ++ [(rpt d p L.length).1]).length ≤ n) := by
                  show _ ≤ _
                  rw [List.length_append]
                  exact hlt
                have B67 : Below (w.heap.size + 1) W5 W7 := B6.trans B7
                have HS7 : Hid (QSt d R w n p2 (L ++ [(rpt d p L.length).1]) (S ++ [p]) (.slice (some ⟨b1, 0, none⟩) (L.length + 1) k1) (.slice (some ⟨b2, 0, none⟩) (S.length + 1) k2) W7) :=
                  ⟨(M4.out.trans (HB5.out.mono M4.out.size)).trans (B67.mono (by omega)), by unfold Rq; rw [B67.block _ (by omega), HB5.out.block _ HR4.out.lt]; exact HR4.out, HP2.out h0, O7, N7, S7.symm, by simp [HS.out.ls], HLL.out, by rw [HS.out.hR, Qst.step hlt HE2.out, HPP.out]⟩
                rw [HX2.out] at hr1 HS7
                have g0 := cell_of_row _ _ 0 _ _ _ P5.out
                have g1 := cell_of_row _ _ 1 _ _ _ P5.out
                have g2 := cell_of_row _ _ 2 _ _ _ P5.out
                rw [← HTS.out] at hr1
                dsimp only at hr1
                clear O6 N6 S6 B6 N7 O7 S7 B7 B67 M2 M3 M4 HR4 hB
                go_upto_region 21 with fail
                try rw [← hW5]
                clear hW5
                go_wp2_with (at_builtin; first | refine wpList_append_run rfl (.tmp 65) (.tmp 67) 22 22 rfl _ _ _ _ rfl rfl hr1 ?_ | refine wpList_append_run rfl (.tmp 69) (.tmp 71) 28 28 rfl _ _ _ _ rfl rfl hr2 ?_)
                clear hr1 hr2
                go_wp2
                go_roundw
                case rel => exact ⟨p2, _, _, _, _, _, _, _, _, rfl, rfl, by rw [List.length_append, List.length_singleton]; go_num, by rw [List.length_append, List.length_singleton], by rw [List.length_append, List.length_singleton], HS7⟩
                case measure => simp [intOf]; omega
            · have HF : Hid (R = (L, S, p)) := by show _ = _; rw [HS.out.hR, Qst.bad hlt (by rw [HE2.out]; exact h0)]
              clear hB HX HE2 HPP HP2
              go_wp2
              try simp only [Exit.inBlock, Exit.then]
              refine bodyPost_ret (results_tmp5 rfl _ _ _) rfl ?_
              exact ⟨M4.out, Or.inr ⟨HM.out, _, _, by rw [HF.out]; rfl, by rw [HF.out]; exact OwnG.mono M2.out (by omega), by rw [HF.out]; exact OwnG.mono M3.out (by omega)⟩⟩
          · have e : L.length = n := by have := HS.out.hn; omega
            have yk : ¬ (L.length : Int) < (n : Int) := by omega
            have HF : Hid (R = (L, S, p)) := by show _ = _; rw [HS.out.hR, Qst.full e]
            obtain ⟨x0, x1, x2, x3, x4⟩ := HS.out.rd.cells
            clear x0 x2 x3 x4
            have x1' : wr.drew.cell? ⟨w.heap.size, 1, none⟩ = some (.int .i64 p) := x1
            go_wp2
            go_quiet (fail)
            go_wp2
            try simp only [Exit.inBlock, Exit.then]
            refine bodyPost_ret (results_tmp5 rfl _ _ _) rfl ?_
            exact ⟨below_drewN HS.out.b0 _, Or.inr ⟨HM.out, _, _, by rw [HF.out]; rfl, by rw [HF.out]; exact OwnG.mono HS.out.op (by omega), by rw [HF.out]; exact OwnG.mono HS.out.on (by omega)⟩⟩
      · have HC : Hid (¬ (d.take 4 = mark ∧ e1 = 0)) := fun c => he c.2
        clear hR hex heq hbd hz h4 h1 hp1 hm hd
        go_enter Tryz.func40, Tryz.ntmps40
        go_wp2_with fail
        refine (CN.out _ _ R0.out).mono ?_
        rintro e w1 ⟨rfl, R1, K1⟩
        have LB : Hid (Below w.heap.size w w1) := ((A0.out.trans (K1.mono (fun k hk _ => by omega))).below (Nat.le_refl _))
        obtain ⟨x0, x1, x2, x3, x4⟩ := R1.cells
        clear R1 K1 CN R0 A0 heq2 t1 t1' x0 x1 x3 x4
        go_wp2
        try simp only [Exit.inBlock, Exit.then]
        refine bodyPost_ret (results_tmp5 rfl _ _ _) rfl ?_
        exact ⟨LB.out, Or.inl ⟨HC.out, rfl⟩⟩
    · have heq2 : ((bd.extract 0 4).toList == [83, 80, 75, 49]) = false := by rw [heq]; exact beq_eq_false_iff_ne.2 hm
      have HC : Hid (¬ (d.take 4 = mark ∧ (rNum 200 d 4 0).2.2 = 0)) := fun c => hm c.1
      obtain ⟨Q, hQ⟩ : ∃ Q : Prop, Q = (d.take 4 = mark ∧ (rNum 200 d 4 0).2.2 = 0) := ⟨_, rfl⟩
      rw [← hQ] at HC ⊢
      clear hQ hbd hz h4 hd hex heq hm
      go_enter Tryz.func40, Tryz.ntmps40
      go_wp2
      try simp only [Exit.inBlock, Exit.then]
      refine bodyPost_ret (results_tmp5 rfl _ _ _) rfl ?_
      exact ⟨Below.refl _ _, Or.inl ⟨HC.out, rfl⟩⟩
end Go.Proofs.YtnmjcpoobabjgaaGreatDoor
