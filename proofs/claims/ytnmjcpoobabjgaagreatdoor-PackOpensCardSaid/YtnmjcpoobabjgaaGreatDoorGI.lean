import Derived.Test.YtnmjcpoobabjgaaGreatDoorGFm
import Derived.Deep.RegionHeld3
set_option linter.unusedVariables false
set_option linter.unusedSimpArgs false
/- A pack is made of parts. -/
namespace Go.Proofs.YtnmjcpoobabjgaaGreatDoor
set_option maxRecDepth 100000
open Go.RowKit Classical
theorem allT_small {l : List Pt} : ∀ x ∈ (allT l).1, x.length ≤ 4099 := by
 intro x hx
 by_cases h : (allT l).2 = 0
 ·have := (allR_ok h).1
  unfold allT at hx
  rw [this] at hx
  obtain ⟨i, -, rfl⟩ := List.mem_map.1 hx
  unfold textR
  split
  ·exact txq_len _ _
  ·simp
 ·have := allR_err h
  unfold allT at hx
  rw [this] at hx
  simp at hx
theorem allocId_run (w : World) : (Instr.alloc 37 true (.tuple #[])).run Tryz.prog w = .ok (.pointer (some ⟨w.heap.size, 0, none⟩)) (w.alloc (.cells (arr 32 (bv fun _ => 0)) 37)) := by kernel_rfl
theorem ex_allocId {o : Oper} {a : Act} {w : World} (ho : o.op = .alloc 37) : (execOp a.eval o).run Tryz.prog w = .ok (.value (.pointer (some ⟨w.heap.size, 0, none⟩))) (w.alloc (.cells (arr 32 (bv fun _ => 0)) 37)) := by
 have hr := allocId_run w
 unfold execOp
 simp only [ho, Sem.run_bind, hr, Result.andThen_ok]
 rfl
set_option maxHeartbeats 8000000 in
theorem packof_any {l : List Pt} {v : Value} {w : World} (hv : RowP w v l) (hT : Tie w) (hs : l.length ≤ 10000) (ht : ∀ x ∈ l, x.t.length ≤ 1000000) :
  Calls Tryz.prog 24 #[v] w fun e w' => Below w.heap.size w w' ∧ ((∃ os, packR l = some os ∧ ∃ w1 vo vd, Below w.heap.size w w1 ∧ e = .returned (.tuple #[.pointer (some ⟨w1.heap.size + 1, 0, none⟩), .bool true]) ∧ PL w1 v (.slice none 0 0) os (os.map oid) (os.map oid) vo vd w') ∨ (packR l = none ∧ e = .returned (.tuple #[.pointer none, .bool false]))) := by
 have C1 : Hid (∀ W, RowP W v l → _) := Lib.hid (fun W h => all_any9 (w := W) h hs ht)
 have HS := allT_small (l := l)
 obtain ⟨R, hR⟩ : ∃ R, R = packR l := ⟨_, rfl⟩
 rw [← hR]
 unfold packR at hR
 have hlen : (allT l).1.length ≤ 10000 := by
  have : (allT l).1.length ≤ l.length := allR_len
  omega
 obtain ⟨T, er, hTe⟩ : ∃ T er, allT l = (T, er) := ⟨_, _, rfl⟩
 rw [hTe] at C1 hR HS hlen
 dsimp only at C1 hR HS hlen
 have HV := Lib.hid hv
 have TI := Lib.hid hT
 obtain ⟨av, nv, cv, rfl⟩ : ∃ ad n cap, v = .slice ad n cap := by
  obtain ⟨x1, x2, x3⟩ := RowG.len hv
  exact ⟨_, _, _, x3⟩
 clear hv hT hs ht hTe
 by_cases h0 : er = 0
 ·subst h0
  rw [if_pos rfl] at hR
  have HR0 := Lib.hid hR
  clear hR
  have CR : Hid (∀ k, k < T.length → ∀ W, Calls Tryz.prog 44 #[.string (bs (T.getD k []))] W fun e w' => e = .returned (rdv (frameOf (T.getD k []))) ∧ Below W.heap.size W w') := fun k hk W => oread2_any _ W (by have := HS _ (getD_mem T [] k hk); omega)
  have hmm := @run_makeMap Tryz.prog
  go_enter Tryz.func24, Tryz.ntmps24
  go_wp2_with fail
  refine (C1.out _ HV.out).mono ?_
  rintro e w1 ⟨u, rfl, hO, B1⟩
  have HO := Lib.hid hO
  have L1 := Lib.hid B1
  obtain ⟨au, n, cu, hn, rfl⟩ : ∃ ad n cap, n = T.length ∧ u = .slice ad n cap := by
   obtain ⟨x1, x2, x3⟩ := RowG.len hO.row
   exact ⟨_, _, _, rfl, x3⟩
  have HN := Lib.hid hn
  have hn4 : n ≤ 10000 := by omega
  obtain ⟨ad2, cap2, e2, hc2⟩ := RowS.cells hO.row
  have HC : Hid (∀ k, k < n → ∃ b o, au = some ⟨b, o, none⟩ ∧ b < w1.heap.size ∧ w1.cell? ⟨b, o + k, none⟩ = some (.string (bs (T.getD k [])))) := by
   cases e2
   show ∀ k, _
   rw [hn]; exact hc2
  have P0 := Lib.hid (PL.start w1 (.slice av nv cv))
  clear hO B1 hn C1 e2 hc2 hlen HS
  go_wp2
  go_loopw [26] (fun i wr => ∃ (k : Nat) (os : List (Int × List UInt8)) (vo vd : Value), k ≤ n ∧ i = .int .i64 (k : Int) ∧ Hid (R = pk (T.drop k) os) ∧ Hid (os.length = k) ∧ Hid (PL w1 (.slice av nv cv) (.slice none 0 0) os (os.map oid) (os.map oid) vo vd wr)) (fun i _ => n - (intOf i).toNat)
  case atStart => exact ⟨0, [], _, _, Nat.zero_le _, rfl, by show _ = _; rw [List.drop_zero]; exact HR0.out, rfl, P0.out⟩
  case round =>
   obtain ⟨k, os, vo, vd, hk, rfl, hE, hK, hP⟩ := hrel
   clear P0 HR0 hmm
   by_cases hlt : k < n
   ·have yk : (k : Int) < (n : Int) := by omega
    have y0 : (0 : Int) ≤ (k : Int) := by omega
    have w5 : IntKind.i64.wrap ((k : Int) + 1) = (k : Int) + 1 := IntWalk.i64_in _ (by omega)
    obtain ⟨b, o, rfl, hb1, hb2⟩ := HC.out k hlt
    have ct : wr.cell? ⟨b, o + k, none⟩ = some (.string (bs (T.getD k []))) := by rw [hP.out.kp.cell (p := ⟨b, o + k, none⟩) hb1]; exact hb2
    have C2 : Hid (∀ W, _) := Lib.hid (CR.out k (by rw [← HN.out]; exact hlt))
    have HD : Hid (T.drop k = T.getD k [] :: T.drop (k + 1)) := by
     show _ = _
     have hk2 : k < T.length := by rw [← HN.out]; exact hlt
     rw [List.drop_eq_getElem_cons hk2, List.getD_eq_getElem?_getD, List.getElem?_eq_getElem hk2]; rfl
    obtain ⟨t, ht⟩ : ∃ t, t = T.getD k [] := ⟨_, rfl⟩
    rw [← ht] at ct C2 HD
    have hE2 : Hid (R = pk (t :: T.drop (k + 1)) os) := by show _ = _; rw [← HD.out]; exact hE.out
    have KW : Hid (Below w.heap.size w wr) := L1.out.trans (hP.out.kp.mono L1.out.size)
    obtain ⟨ts, hts⟩ : ∃ ts, ts = bs t := ⟨_, rfl⟩
    rw [← hts] at ct C2
    clear hb1 hb2 ht hts HD hE
    cases hf : frameOf t with
    | none =>
     have HF : Hid (R = none) := by show _ = _; rw [hE2.out]; exact pk_bad hf
     rw [hf] at C2
     unfold rdv at C2
     dsimp only at C2
     clear hf hE2
     go_wp2_with fail
     refine (C2.out _).mono ?_
     rintro e w2 ⟨rfl, B2⟩
     have L2 : Hid (Below w.heap.size w w2) := KW.out.trans (B2.mono KW.out.size)
     clear B2 C2 ct
     go_wp2
     go_ret2
     exact ⟨(L2.out.alloc L2.out.size _), Or.inr ⟨HF.out, rfl⟩⟩
    | some x =>
     have hOk : objOk x.1 x.2 := (frameOf_some.1 hf).1
     have CI : Hid (∀ W, Tie W → Calls Tryz.prog 47 #[.agg #[.int .i64 x.1, .string (bs x.2)]] W fun e w' => e = .returned (.tuple #[.agg (arr 32 (bv (oid x))), .bool true]) ∧ Below W.heap.size W w') := fun W hW => (oid_any x.1 x.2 W hW).mono fun e w' h => ⟨h.1 hOk, h.2.2⟩
     have HFx : Hid ((idx (oid x) (os.map oid) 0 ≠ none → R = none) ∧ (idx (oid x) (os.map oid) 0 = none → R = pk (T.drop (k + 1)) (os ++ [x]))) := ⟨fun h => by rw [hE2.out]; exact pk_twice hf h, fun h => by rw [hE2.out]; exact pk_more hf h⟩
     rw [hf] at C2
     unfold rdv at C2
     dsimp only at C2
     obtain ⟨D, hD⟩ : ∃ D, D = oid x := ⟨_, rfl⟩
     rw [← hD] at CI HFx
     have HDx := Lib.hid hD
     obtain ⟨xk, hxk⟩ : ∃ xk, xk = x.1 := ⟨_, rfl⟩
     obtain ⟨xs, hxs⟩ : ∃ xs, xs = bs x.2 := ⟨_, rfl⟩
     rw [← hxk, ← hxs] at C2 CI
     have HXk := Lib.hid hxk
     have HXs := Lib.hid hxs
     have HVO : Hid (∀ gb, vo.ownBlock = some gb → w1.heap.size + 2 ≤ gb ∧ gb < wr.heap.size) := fun gb h => own_lt hP.out.oo h
     have HVD : Hid (∀ gb, vd.ownBlock = some gb → w1.heap.size + 2 ≤ gb ∧ gb < wr.heap.size) := fun gb h => own_lt hP.out.od h
     have HW1 : Hid (w1.heap.size + 1 < wr.heap.size) := hP.out.lt
     clear hf hE2 hOk hD hxk hxs
     go_wp2_with fail
     refine (C2.out _).mono ?_
     rintro e w2 ⟨rfl, B2⟩
     have L2 := Lib.hid B2
     clear B2 C2 ct
     go_upto_region 11 with fail
     change Code.wp _ _ _ _ (w2.alloc (.cells #[.int .i64 xk, .string xs] 43))
     have hA3 : Below w2.heap.size w2 (w2.alloc (.cells #[.int .i64 xk, .string xs] 43)) := (Below.refl _ _).alloc (Nat.le_refl _) _
     have o3 : (w2.alloc (.cells #[.int .i64 xk, .string xs] 43)).heap[w2.heap.size]? = some (.cells #[.int .i64 xk, .string xs] 43 (0, 0)) := heap_alloc_new _ _
     obtain ⟨oB, hoB⟩ : ∃ oB, oB = w2.heap.size := ⟨_, rfl⟩
     rw [← hoB] at o3 ⊢
     have HOB : Hid (wr.heap.size ≤ oB) := by show _ ≤ _; rw [hoB]; exact L2.out.size
     generalize w2.alloc (.cells #[.int .i64 xk, .string xs] 43) = w3 at hA3 o3 ⊢
     have L3 : Hid (Below wr.heap.size wr w3) := L2.out.trans (hA3.mono L2.out.size)
     have O3 := Lib.hid o3
     have q0 := cell_of_row _ _ 0 _ _ _ o3
     have q1 := cell_of_row _ _ 1 _ _ _ o3
     have T3 := Lib.hid (TI.out.below (KW.out.trans (L3.out.mono KW.out.size)))
     clear hA3 o3 L2 hoB
     refine wp_region_lit ?_
     refine wpList_valS (v := ?_) (by kernel_rfl) ?_ ?_
     rotate_left 1
     ·(go_simp; try with_reducible rfl)
     try simp only [Act.put, tA, tZ, tS]
     refine wpList_callG (by kernel_rfl) fun K hK => ?_
     go_simp
     refine (CI.out _ T3.out).mono ?_
     rintro e w4 ⟨rfl, B4⟩
     refine hK _ _ ?_
     clear hK K
     try simp only [Act.put, tA, tZ, tS]
     have L4 : Hid (Below wr.heap.size wr w4) := L3.out.trans (B4.mono L3.out.size)
     have O4 : Hid (w4.heap[oB]? = some (.cells #[.int .i64 xk, .string xs] 43 (0, 0))) := by show _ = _; rw [B4.block _ (lt_of_block O3.out)]; exact O3.out
     clear B4 q0 q1 CI T3 L3 O3
     iterate 3
      refine wpList_valS (v := ?_) (by kernel_rfl) ?_ ?_
      rotate_left 1
      ·(go_simp; try with_reducible rfl)
      try simp only [Act.put, tA, tZ, tS]
     refine wpList_valG (by kernel_rfl) (ex_allocId rfl) ?_
     try simp only [Act.put, tA, tZ, tS]
     have BZ : Blk (w4.alloc (.cells (arr 32 (bv fun _ => 0)) 37)) w4.heap.size 37 32 (bv fun _ => 0) := Blk.newAt _ (heap_alloc_new _ _) rfl
     have L5 : Hid (Below wr.heap.size wr (w4.alloc (.cells (arr 32 (bv fun _ => 0)) 37))) := L4.out.alloc L4.out.size _
     have O5 : Hid ((w4.alloc (.cells (arr 32 (bv fun _ => 0)) 37)).heap[oB]? = some (.cells #[.int .i64 xk, .string xs] 43 (0, 0))) := by show _ = _; rw [((Below.refl w4.heap.size w4).alloc (Nat.le_refl _) _).block _ (lt_of_block O4.out)]; exact O4.out
     have HNE : Hid (oB ≠ w4.heap.size) := by show _ ≠ _; have := lt_of_block O4.out; omega
     have HIB : Hid (wr.heap.size ≤ w4.heap.size) := L4.out.size
     obtain ⟨iB, hiB⟩ : ∃ iB, iB = w4.heap.size := ⟨_, rfl⟩
     rw [← hiB] at BZ HNE HIB ⊢
     generalize w4.alloc (.cells (arr 32 (bv fun _ => 0)) 37) = W4 at BZ L5 O5 ⊢
     clear L4 O4
     refine wpList_unitG (by kernel_rfl) (ex_store 37 (.tmp 11) (.tmp 41) rfl iB 0 32 (bv D) rfl rfl (BZ.there 0 32 (by omega)) sz30 (fun _ _ => rfl)) ?_
     try simp only [Act.put, tA, tZ, tS]
     refine wpList_valS (v := ?_) (by kernel_rfl) ?_ ?_
     rotate_left 1
     ·(go_simp; try with_reducible rfl)
     try simp only [Act.put, tA, tZ, tS]
     refine wpList_nil ?_
     have B5 := Lib.hid (BZ.over (bv D))
     have KZ := keep_setCells (b := iB) (arr 32 (bv D)).toList 0 W4
     have L6 : Hid (Below wr.heap.size wr (W4.setCells iB 0 (arr 32 (bv D)).toList)) := ((Keep.of_below L5.out (fun b hb _ => hb) : Keep (fun b => b < wr.heap.size) wr W4).trans (KZ.mono fun b hb _ => by have := HIB.out; omega)).below (Nat.le_refl _)
     have O6 : Hid ((W4.setCells iB 0 (arr 32 (bv D)).toList).heap[oB]? = some (.cells #[.int .i64 xk, .string xs] 43 (0, 0))) := KZ.at HNE.out O5.out
     generalize W4.setCells iB 0 (arr 32 (bv D)).toList = w5' at B5 L6 O6 ⊢
     clear BZ KZ L5 O5 hiB
     have P5 := Lib.hid (hP.out.below L6.out)
     have CF := Lib.hid (pfind_any D P5.out.bl P5.out.mp)
     go_upto_region 12 with fail
     refine wp_region_lit ?_
     refine wpList_valS (v := ?_) (by kernel_rfl) ?_ ?_
     rotate_left 1
     ·(go_simp; try with_reducible rfl)
     try simp only [Act.put, tA, tZ, tS]
     refine wpList_valG (by kernel_rfl) (ex_load 37 (.tmp 11) rfl iB 0 32 (bv D) rfl ty30 rfl sz30 B5.out.at0) ?_
     try simp only [Act.put, tA, tZ, tS]
     refine wpList_callG (by kernel_rfl) fun K hK => ?_
     go_simp
     refine (CF.out).mono ?_
     rintro e w6 ⟨rfl, B6⟩
     refine hK _ _ ?_
     clear hK K
     try simp only [Act.put, tA, tZ, tS]
     have L7 : Hid (Below wr.heap.size wr w6) := L6.out.trans (B6.mono L6.out.size)
     have O7 : Hid (w6.heap[oB]? = some (.cells #[.int .i64 xk, .string xs] 43 (0, 0))) := by show _ = _; rw [B6.block _ (lt_of_block O6.out)]; exact O6.out
     have B7 := Lib.hid (B5.out.below B6 B5.out.lt)
     have P7 := Lib.hid (P5.out.below B6)
     clear B6 L6 O6 B5 P5 CF
     have hfn := fnd_neg (f := D) (L := os.map oid)
     generalize fnd D (os.map oid) = fz at hfn ⊢
     refine wpList_valS (v := ?_) (by kernel_rfl) ?_ ?_
     rotate_left 1
     ·(go_simp; try with_reducible rfl)
     try simp only [Act.put, tA, tZ, tS]
     refine wpList_nil ?_
     by_cases hx : idx D (os.map oid) 0 = none
     ·have fz0 : fz < 0 := hfn.2 hx
      have HRn := Lib.hid (HFx.out.2 hx)
      clear hfn HFx
      go_upto_region 14 with fail
      have g2 := P7.out.bl
      have g20 := cell_of_row _ _ 2 _ _ _ g2
      have S0 : w6.drew.cell? ⟨oB, 0, none⟩ = some (.int .i64 xk) ∧ w6.drew.cell? ⟨oB, 1, none⟩ = some (.string xs) := ⟨cell_of_row _ _ 0 _ _ _ O7.out, cell_of_row _ _ 1 _ _ _ O7.out⟩
      have P8 := Lib.hid (P7.out.below (Below.refl _ _).drew)
      obtain ⟨b1, c1, W7, hr, P9, q9, f9, K9⟩ := P8.out.obj x (by have := hK.out; omega)
      rw [← HXk.out, ← HXs.out] at hr
      have SA : Hid (∀ W, Keep (fun j => vo.ownBlock ≠ some j) w6.drew W → W.cell? ⟨oB, 0, none⟩ = some (.int .i64 xk) ∧ W.cell? ⟨oB, 1, none⟩ = some (.string xs)) := fun W hW => by
       have n2 : vo.ownBlock ≠ some oB := fun h => by have := HVO.out _ h; have := HOB.out; omega
       exact ⟨hW.cell n2 S0.1, hW.cell n2 S0.2⟩
      have B9 : Hid (Blk (W7.setCell ⟨w1.heap.size + 1, 2, none⟩ (.slice (some ⟨b1, 0, none⟩) (os.length + 1) c1)) iB 37 32 (bv D)) := by
       have n2 : vo.ownBlock ≠ some iB := fun h => by have := HVO.out _ h; have := HIB.out; omega
       have n3 : iB ≠ w1.heap.size + 1 := by have := HIB.out; have := HW1.out; omega
       show Blk _ _ _ _ _
       exact ((Keep.refl (fun j => j ≠ w1.heap.size + 1) W7).setCell (fun h => h rfl) _).blk n3 (K9.blk n2 B7.out)
      have HP9 := Lib.hid P9
      have KA9 := Lib.hid K9
      have SE : Hid ((W7.setCell ⟨w1.heap.size + 1, 2, none⟩ (.slice (some ⟨b1, 0, none⟩) (os.length + 1) c1)).cell? ⟨oB, 0, none⟩ = some (.int .i64 xk) ∧ (W7.setCell ⟨w1.heap.size + 1, 2, none⟩ (.slice (some ⟨b1, 0, none⟩) (os.length + 1) c1)).cell? ⟨oB, 1, none⟩ = some (.string xs)) := by
       have n3 : oB ≠ w1.heap.size + 1 := by have := HOB.out; have := HW1.out; omega
       have hh := SA.out _ K9
       have kk : Keep (fun j => j ≠ w1.heap.size + 1) W7 (W7.setCell ⟨w1.heap.size + 1, 2, none⟩ (.slice (some ⟨b1, 0, none⟩) (os.length + 1) c1)) := (Keep.refl _ W7).setCell (fun h => h rfl) _
       exact ⟨kk.cell n3 hh.1, kk.cell n3 hh.2⟩
      have gA : (w6.alloc (.cells #[.int .i64 xk, .string xs] 43)).cell? ⟨w1.heap.size + 1, 2, none⟩ = some vo := by
       rw [((Below.refl w6.heap.size w6).alloc (Nat.le_refl _) _).cell (show w1.heap.size + 1 < w6.heap.size from P8.out.lt)]; exact g20
      have g2d : w6.drew.cell? ⟨w1.heap.size + 1, 2, none⟩ = some vo := g20
      clear P9 K9 g2 g20
      refine wp_region_noPanic ?_
      refine wp_region_held_drew (S := (fun W => W.cell? ⟨oB, 0, none⟩ = some (.int .i64 xk) ∧ W.cell? ⟨oB, 1, none⟩ = some (.string xs))) (by kernel_rfl) S0 (fun hHeld => ?_)
      refine wpAnyH_take (i := 0) (oi := ⟨some 47, .move (.tmp 6), 38, "pack.go:143", #[], none⟩) (v := ?_) rfl (by kernel_rfl) (by kernel_rfl) (by kernel_rfl) (fun _ _ _ h => h) (Or.inl ⟨by kernel_rfl, ?_⟩) (by assumption) ?_
      rotate_left 1
      ·(intro wS hSw; (try dsimp only at hSw); go_simp; try with_reducible rfl)
      try simp only [Act.put, tA, tZ, tS]
      refine wpAnyH_take (i := 1) (oi := ⟨some 48, .move (.tmp 6), 38, "pack.go:143", #[], none⟩) (v := ?_) rfl (by kernel_rfl) (by kernel_rfl) (by kernel_rfl) (fun _ _ _ h => h) (Or.inl ⟨by kernel_rfl, ?_⟩) (by assumption) ?_
      rotate_left 1
      ·(intro wS hSw; (try dsimp only at hSw); go_simp; try with_reducible rfl)
      try simp only [Act.put, tA, tZ, tS]
      refine wpAnyH_take (i := 2) (oi := ⟨some 49, .nilCheck (.tmp 48), 0, "pack.go:143", #[⟨1, .data⟩], none⟩) (v := ?_) rfl (by kernel_rfl) (by kernel_rfl) (by kernel_rfl) (fun _ _ _ h => h) (Or.inl ⟨by kernel_rfl, ?_⟩) (by assumption) ?_
      rotate_left 1
      ·(intro wS hSw; (try dsimp only at hSw); go_simp; try with_reducible rfl)
      try simp only [Act.put, tA, tZ, tS]
      refine wpAnyH_take (i := 3) (oi := ⟨some 50, .fieldAddr 86 (.tmp 49) 2, 0, "pack.go:143", #[⟨2, .data⟩], none⟩) (v := ?_) rfl (by kernel_rfl) (by kernel_rfl) (by kernel_rfl) (fun _ _ _ h => h) (Or.inl ⟨by kernel_rfl, ?_⟩) (by assumption) ?_
      rotate_left 1
      ·(intro wS hSw; (try dsimp only at hSw); go_simp; try with_reducible rfl)
      try simp only [Act.put, tA, tZ, tS]
      refine wpAnyH_take (i := 5) (oi := ⟨some 52, .load 43 (.tmp 9), 43, "pack.go:143", #[], none⟩) (v := ?_) rfl (by kernel_rfl) (by kernel_rfl) (by kernel_rfl) (fun _ _ _ h => h) (Or.inl ⟨by kernel_rfl, ?_⟩) (by assumption) ?_
      rotate_left 1
      ·(intro wS hSw; (try dsimp only at hSw); go_simp; try with_reducible rfl)
      try simp only [Act.put, tA, tZ, tS]
      refine wpAnyH_ready (rs := [4, 6]) (by kernel_rfl) (by simp) ?_
      refine AllReadyH.cons (o := ⟨some 51, .load 29 (.tmp 50), 29, "pack.go:143", #[⟨3, .data⟩], none⟩) rfl (fun K hK => ?_) (AllReadyH.cons (o := ⟨some 53, .buildSlice 29 1 #[(0, .tmp 52)], 29, "pack.go:143", #[⟨5, .data⟩], none⟩) rfl (fun K hK => ?_) AllReadyH.nil)
      ·skip
       go_simp
       refine hK.out _ _ (S0) (fun _ => ?_)
       clear hK K
       try simp only [Act.put, tA, tZ, tS]
       refine wpAnyH_ready (rs := [6]) (by kernel_rfl) (by simp) ?_
       refine AllReadyH.cons (o := ⟨some 53, .buildSlice 29 1 #[(0, .tmp 52)], 29, "pack.go:143", #[⟨5, .data⟩], none⟩) rfl (fun K hK => ?_) AllReadyH.nil
       go_simp
       refine hK.out _ _ (SA.out _ ((Keep.refl _ _).alloc _)) (fun _ => ?_)
       clear hK K
       try simp only [Act.put, tA, tZ, tS]
       refine wpAnyH_ready (rs := [7]) (by kernel_rfl) (by simp) ?_
       refine AllReadyH.cons (o := ⟨some 54, .call { callee := .builtin .append, args := #[.tmp 51, .tmp 53], argTypes := #[29, 29] }, 29, "pack.go:143", #[⟨4, .data⟩, ⟨6, .data⟩], none⟩) rfl (fun K hK => ?_) AllReadyH.nil
       refine step_append_run rfl (.tmp 51) (.tmp 53) 29 29 rfl vo _ _ W7 rfl rfl hr ?_
       refine hK.out _ _ (SA.out _ KA9.out) (fun _ => ?_)
       clear hK K
       try simp only [Act.put, tA, tZ, tS]
       clear hr
       refine wpAnyH_take (i := 8) (oi := ⟨some 55, .nilCheck (.tmp 47), 0, "pack.go:143", #[⟨0, .data⟩, ⟨0, .phase⟩, ⟨1, .phase⟩, ⟨2, .phase⟩, ⟨3, .phase⟩, ⟨4, .phase⟩, ⟨5, .phase⟩, ⟨6, .phase⟩, ⟨7, .phase⟩], none⟩) (v := ?_) rfl (by kernel_rfl) (by kernel_rfl) (by kernel_rfl) (fun _ _ _ h => h) (Or.inl ⟨by kernel_rfl, ?_⟩) (by assumption) ?_
       rotate_left 1
       ·(intro wS hSw; (try dsimp only at hSw); go_simp; try with_reducible rfl)
       try simp only [Act.put, tA, tZ, tS]
       refine wpAnyH_take (i := 9) (oi := ⟨some 56, .fieldAddr 86 (.tmp 55) 2, 0, "pack.go:143", #[⟨8, .data⟩, ⟨0, .phase⟩, ⟨1, .phase⟩, ⟨2, .phase⟩, ⟨3, .phase⟩, ⟨4, .phase⟩, ⟨5, .phase⟩, ⟨6, .phase⟩, ⟨7, .phase⟩], none⟩) (v := ?_) rfl (by kernel_rfl) (by kernel_rfl) (by kernel_rfl) (fun _ _ _ h => h) (Or.inl ⟨by kernel_rfl, ?_⟩) (by assumption) ?_
       rotate_left 1
       ·(intro wS hSw; (try dsimp only at hSw); go_simp; try with_reducible rfl)
       try simp only [Act.put, tA, tZ, tS]
       refine wpAnyH_ready (rs := [10]) (by kernel_rfl) (by simp) ?_
       refine AllReadyH.cons (o := ⟨none, .store 29 (.tmp 56) (.tmp 54), 0, "pack.go:143", #[⟨9, .data⟩, ⟨7, .data⟩, ⟨7, .chain⟩, ⟨0, .phase⟩, ⟨1, .phase⟩, ⟨2, .phase⟩, ⟨3, .phase⟩, ⟨4, .phase⟩, ⟨5, .phase⟩, ⟨6, .phase⟩, ⟨7, .phase⟩], none⟩) rfl (fun K hK => ?_) AllReadyH.nil
       go_simp
       refine hK.out _ _ (SE.out) (fun _ => ?_)
       clear hK K
       try simp only [Act.put, tA, tZ, tS]
       refine wpAnyH_done (by kernel_rfl) ?_ _
       refine NoPanic.normal ?_
       clear S0 SA SE gA g2d q9 f9 KA9 P8 O7 B7 P7
       generalize W7.setCell ⟨w1.heap.size + 1, 2, none⟩ (.slice (some ⟨b1, 0, none⟩) (os.length + 1) c1) = w8 at HP9 B9 ⊢
       generalize (.slice (some ⟨b1, 0, none⟩) (os.length + 1) c1 : Value) = vo' at HP9
       go_upto_region 15 with fail
       have g3 := HP9.out.bl
       have g30 := cell_of_row _ _ 3 _ _ _ g3
       have S1 : Blk w8.drew iB 37 32 (bv D) := B9.out
       have P10 := Lib.hid (HP9.out.below (Below.refl _ _).drew)
       obtain ⟨b2, c2, W9, hr2, P11, q11, f11, K11⟩ := P10.out.idd D (by have := hK.out; rw [List.length_map]; omega)
       rw [List.length_map] at hr2 P11
       have HP11 := Lib.hid P11
       have KA11 := Lib.hid K11
       have SA1 : Hid (∀ W, Keep (fun j => vd.ownBlock ≠ some j) w8.drew W → Blk W iB 37 32 (bv D)) := fun W hW => by
        have n2 : vd.ownBlock ≠ some iB := fun h => by have := HVD.out _ h; have := HIB.out; omega
        exact hW.blk n2 S1
       have SE1 : Hid (Blk (W9.setCell ⟨w1.heap.size + 1, 3, none⟩ (.slice (some ⟨b2, 0, none⟩) (os.length + 1) c2)) iB 37 32 (bv D)) := by
        have n3 : iB ≠ w1.heap.size + 1 := by have := HIB.out; have := HW1.out; omega
        show Blk _ _ _ _ _
        exact ((Keep.refl (fun j => j ≠ w1.heap.size + 1) W9).setCell (fun h => h rfl) _).blk n3 (SA1.out _ K11)
       have gA1 : (w8.alloc (.cells (arr 32 (bv D)) 37)).cell? ⟨w1.heap.size + 1, 3, none⟩ = some vd := by
        rw [((Below.refl w8.heap.size w8).alloc (Nat.le_refl _) _).cell (show w1.heap.size + 1 < w8.heap.size from P10.out.lt)]; exact g30
       have g3d : w8.drew.cell? ⟨w1.heap.size + 1, 3, none⟩ = some vd := g30
       clear P11 K11 g3 g30
       refine wp_region_noPanic ?_
       refine wp_region_held_drew (S := (fun W => Blk W iB 37 32 (bv D))) (by kernel_rfl) S1 (fun hHeld => ?_)
       refine wpAnyH_take (i := 0) (oi := ⟨some 57, .move (.tmp 6), 38, "pack.go:144", #[], none⟩) (v := ?_) rfl (by kernel_rfl) (by kernel_rfl) (by kernel_rfl) (fun _ _ _ h => h) (Or.inl ⟨by kernel_rfl, ?_⟩) (by assumption) ?_
       rotate_left 1
       ·(intro wS hSw; (try dsimp only at hSw); go_simp; try with_reducible rfl)
       try simp only [Act.put, tA, tZ, tS]
       refine wpAnyH_take (i := 1) (oi := ⟨some 58, .move (.tmp 6), 38, "pack.go:144", #[], none⟩) (v := ?_) rfl (by kernel_rfl) (by kernel_rfl) (by kernel_rfl) (fun _ _ _ h => h) (Or.inl ⟨by kernel_rfl, ?_⟩) (by assumption) ?_
       rotate_left 1
       ·(intro wS hSw; (try dsimp only at hSw); go_simp; try with_reducible rfl)
       try simp only [Act.put, tA, tZ, tS]
       refine wpAnyH_take (i := 2) (oi := ⟨some 59, .nilCheck (.tmp 58), 0, "pack.go:144", #[⟨1, .data⟩], none⟩) (v := ?_) rfl (by kernel_rfl) (by kernel_rfl) (by kernel_rfl) (fun _ _ _ h => h) (Or.inl ⟨by kernel_rfl, ?_⟩) (by assumption) ?_
       rotate_left 1
       ·(intro wS hSw; (try dsimp only at hSw); go_simp; try with_reducible rfl)
       try simp only [Act.put, tA, tZ, tS]
       refine wpAnyH_take (i := 3) (oi := ⟨some 60, .fieldAddr 86 (.tmp 59) 3, 0, "pack.go:144", #[⟨2, .data⟩], none⟩) (v := ?_) rfl (by kernel_rfl) (by kernel_rfl) (by kernel_rfl) (fun _ _ _ h => h) (Or.inl ⟨by kernel_rfl, ?_⟩) (by assumption) ?_
       rotate_left 1
       ·(intro wS hSw; (try dsimp only at hSw); go_simp; try with_reducible rfl)
       try simp only [Act.put, tA, tZ, tS]
       refine wpAnyH_take (i := 5) (oi := ⟨some 62, .load 37 (.tmp 11), 37, "pack.go:144", #[], none⟩) rfl (by kernel_rfl) (by kernel_rfl) (by kernel_rfl) (fun _ _ _ h => h) (Or.inl ⟨by kernel_rfl, fun wS hSw => ex_load 37 (.tmp 11) rfl iB 0 32 (bv D) rfl ty30 rfl sz30 hSw.at0⟩) (by assumption) ?_
       try simp only [Act.put, tA, tZ, tS]
       refine wpAnyH_ready (rs := [4, 6]) (by kernel_rfl) (by simp) ?_
       refine AllReadyH.cons (o := ⟨some 61, .load 30 (.tmp 60), 30, "pack.go:144", #[⟨3, .data⟩], none⟩) rfl (fun K hK => ?_) (AllReadyH.cons (o := ⟨some 63, .buildSlice 30 1 #[(0, .tmp 62)], 30, "pack.go:144", #[⟨5, .data⟩], none⟩) rfl (fun K hK => ?_) AllReadyH.nil)
       ·skip
        go_simp
        refine hK.out _ _ (S1) (fun _ => ?_)
        clear hK K
        try simp only [Act.put, tA, tZ, tS]
        refine wpAnyH_ready (rs := [6]) (by kernel_rfl) (by simp) ?_
        refine AllReadyH.cons (o := ⟨some 63, .buildSlice 30 1 #[(0, .tmp 62)], 30, "pack.go:144", #[⟨5, .data⟩], none⟩) rfl (fun K hK => ?_) AllReadyH.nil
        refine step_val rfl _ _ (ex_bslice 30 37 (.tmp 62) rfl 32 (bv D) rfl tIds zId (by decide) (by decide)) ?_
        refine hK.out _ _ (SA1.out _ ((Keep.refl _ _).alloc _)) (fun _ => ?_)
        clear hK K
        try simp only [Act.put, tA, tZ, tS]
        refine wpAnyH_ready (rs := [7]) (by kernel_rfl) (by simp) ?_
        refine AllReadyH.cons (o := ⟨some 64, .call { callee := .builtin .append, args := #[.tmp 61, .tmp 63], argTypes := #[30, 30] }, 30, "pack.go:144", #[⟨4, .data⟩, ⟨6, .data⟩], none⟩) rfl (fun K hK => ?_) AllReadyH.nil
        refine step_append_run rfl (.tmp 61) (.tmp 63) 30 30 rfl vd _ _ W9 rfl rfl hr2 ?_
        refine hK.out _ _ (SA1.out _ KA11.out) (fun _ => ?_)
        clear hK K
        try simp only [Act.put, tA, tZ, tS]
        clear hr2
        refine wpAnyH_take (i := 8) (oi := ⟨some 65, .nilCheck (.tmp 57), 0, "pack.go:144", #[⟨0, .data⟩, ⟨0, .phase⟩, ⟨1, .phase⟩, ⟨2, .phase⟩, ⟨3, .phase⟩, ⟨4, .phase⟩, ⟨5, .phase⟩, ⟨6, .phase⟩, ⟨7, .phase⟩], none⟩) (v := ?_) rfl (by kernel_rfl) (by kernel_rfl) (by kernel_rfl) (fun _ _ _ h => h) (Or.inl ⟨by kernel_rfl, ?_⟩) (by assumption) ?_
        rotate_left 1
        ·(intro wS hSw; (try dsimp only at hSw); go_simp; try with_reducible rfl)
        try simp only [Act.put, tA, tZ, tS]
        refine wpAnyH_take (i := 9) (oi := ⟨some 66, .fieldAddr 86 (.tmp 65) 3, 0, "pack.go:144", #[⟨8, .data⟩, ⟨0, .phase⟩, ⟨1, .phase⟩, ⟨2, .phase⟩, ⟨3, .phase⟩, ⟨4, .phase⟩, ⟨5, .phase⟩, ⟨6, .phase⟩, ⟨7, .phase⟩], none⟩) (v := ?_) rfl (by kernel_rfl) (by kernel_rfl) (by kernel_rfl) (fun _ _ _ h => h) (Or.inl ⟨by kernel_rfl, ?_⟩) (by assumption) ?_
        rotate_left 1
        ·(intro wS hSw; (try dsimp only at hSw); go_simp; try with_reducible rfl)
        try simp only [Act.put, tA, tZ, tS]
        refine wpAnyH_ready (rs := [10]) (by kernel_rfl) (by simp) ?_
        refine AllReadyH.cons (o := ⟨none, .store 30 (.tmp 66) (.tmp 64), 0, "pack.go:144", #[⟨9, .data⟩, ⟨7, .data⟩, ⟨7, .chain⟩, ⟨0, .phase⟩, ⟨1, .phase⟩, ⟨2, .phase⟩, ⟨3, .phase⟩, ⟨4, .phase⟩, ⟨5, .phase⟩, ⟨6, .phase⟩, ⟨7, .phase⟩], none⟩) rfl (fun K hK => ?_) AllReadyH.nil
        go_simp
        refine hK.out _ _ (SE1.out) (fun _ => ?_)
        clear hK K
        try simp only [Act.put, tA, tZ, tS]
        refine wpAnyH_done (by kernel_rfl) ?_ _
        refine NoPanic.normal ?_
        clear S1 SA1 gA1 g3d q11 f11 KA11 P10 B9 HP9
        generalize W9.setCell ⟨w1.heap.size + 1, 3, none⟩ (.slice (some ⟨b2, 0, none⟩) (os.length + 1) c2) = w10 at HP11 SE1 ⊢
        generalize (.slice (some ⟨b2, 0, none⟩) (os.length + 1) c2 : Value) = vd' at HP11
        go_upto_region 16 with fail
        have S2 : w10.drew.cell? ⟨w1.heap.size + 1, 4, none⟩ = some (.map (some w1.heap.size)) ∧ Blk w10.drew iB 37 32 (bv D) := ⟨cell_of_row _ _ 4 _ _ _ HP11.out.bl, SE1.out⟩
        obtain ⟨W11, hup, P12, K12⟩ := (HP11.out.below (Below.refl _ _).drew).put D hx
        rw [List.length_map, hK.out] at hup
        have HP12 := Lib.hid P12
        have S3 : W11.cell? ⟨w1.heap.size + 1, 4, none⟩ = some (.map (some w1.heap.size)) ∧ Blk W11 iB 37 32 (bv D) := by
         exact ⟨cell_of_row _ _ 4 _ _ _ P12.bl, K12.blk (by show iB ≠ _; have := HIB.out; have := HW1.out; omega) SE1.out⟩
        clear P12 K12
        refine wp_region_noPanic ?_
        refine wp_region_held_drew (S := (fun W => W.cell? ⟨w1.heap.size + 1, 4, none⟩ = some (.map (some w1.heap.size)) ∧ Blk W iB 37 32 (bv D))) (by kernel_rfl) S2 (fun hHeld => ?_)
        refine wpAnyH_take (i := 0) (oi := ⟨some 67, .move (.tmp 6), 38, "pack.go:145", #[], none⟩) (v := ?_) rfl (by kernel_rfl) (by kernel_rfl) (by kernel_rfl) (fun _ _ _ h => h) (Or.inl ⟨by kernel_rfl, ?_⟩) (by assumption) ?_
        rotate_left 1
        ·(intro wS hSw; (try dsimp only at hSw); go_simp; try with_reducible rfl)
        try simp only [Act.put, tA, tZ, tS]
        refine wpAnyH_take (i := 1) (oi := ⟨some 68, .nilCheck (.tmp 67), 0, "pack.go:145", #[⟨0, .data⟩], none⟩) (v := ?_) rfl (by kernel_rfl) (by kernel_rfl) (by kernel_rfl) (fun _ _ _ h => h) (Or.inl ⟨by kernel_rfl, ?_⟩) (by assumption) ?_
        rotate_left 1
        ·(intro wS hSw; (try dsimp only at hSw); go_simp; try with_reducible rfl)
        try simp only [Act.put, tA, tZ, tS]
        refine wpAnyH_take (i := 2) (oi := ⟨some 69, .fieldAddr 86 (.tmp 68) 4, 0, "pack.go:145", #[⟨1, .data⟩], none⟩) (v := ?_) rfl (by kernel_rfl) (by kernel_rfl) (by kernel_rfl) (fun _ _ _ h => h) (Or.inl ⟨by kernel_rfl, ?_⟩) (by assumption) ?_
        rotate_left 1
        ·(intro wS hSw; (try dsimp only at hSw); go_simp; try with_reducible rfl)
        try simp only [Act.put, tA, tZ, tS]
        refine wpAnyH_take (i := 3) (oi := ⟨some 70, .load 84 (.tmp 69), 84, "pack.go:145", #[⟨2, .data⟩], none⟩) (v := ?_) rfl (by kernel_rfl) (by kernel_rfl) (by kernel_rfl) (fun _ _ _ h => h) (Or.inl ⟨by kernel_rfl, ?_⟩) (by assumption) ?_
        rotate_left 1
        ·(intro wS hSw; (try dsimp only at hSw); go_simp; try with_reducible rfl)
        try simp only [Act.put, tA, tZ, tS]
        refine wpAnyH_take (i := 4) (oi := ⟨some 71, .load 37 (.tmp 11), 37, "pack.go:145", #[], none⟩) rfl (by kernel_rfl) (by kernel_rfl) (by kernel_rfl) (fun _ _ _ h => h) (Or.inl ⟨by kernel_rfl, fun wS hSw => ex_load 37 (.tmp 11) rfl iB 0 32 (bv D) rfl ty30 rfl sz30 hSw.2.at0⟩) (by assumption) ?_
        try simp only [Act.put, tA, tZ, tS]
        refine wpAnyH_take (i := 5) (oi := ⟨some 72, .move (.tmp 7), 3, "pack.go:145", #[], none⟩) (v := ?_) rfl (by kernel_rfl) (by kernel_rfl) (by kernel_rfl) (fun _ _ _ h => h) (Or.inl ⟨by kernel_rfl, ?_⟩) (by assumption) ?_
        rotate_left 1
        ·(intro wS hSw; (try dsimp only at hSw); go_simp; try with_reducible rfl)
        try simp only [Act.put, tA, tZ, tS]
        refine wpAnyH_ready (rs := [6]) (by kernel_rfl) (by simp) ?_
        refine AllReadyH.cons (o := ⟨none, .mapUpdate 84 (.tmp 70) (.tmp 71) (.tmp 72), 0, "pack.go:145", #[⟨3, .data⟩, ⟨4, .data⟩, ⟨5, .data⟩, ⟨0, .phase⟩, ⟨1, .phase⟩, ⟨2, .phase⟩, ⟨3, .phase⟩, ⟨4, .phase⟩, ⟨5, .phase⟩], none⟩) rfl (fun K hK => ?_) AllReadyH.nil
        refine step_unit rfl W11 (ex_update 84 (.tmp 70) (.tmp 71) (.tmp 72) rfl _ _ _ rfl rfl rfl hup) ?_
        refine hK.out _ _ (S3) (fun _ => ?_)
        clear hK K
        try simp only [Act.put, tA, tZ, tS]
        refine wpAnyH_done (by kernel_rfl) ?_ _
        refine NoPanic.normal ?_
        clear hup S2 S3 SE1 HP11
        have HP13 : Hid (PL w1 (.slice av nv cv) (.slice none 0 0) (os ++ [x]) ((os ++ [x]).map oid) ((os ++ [x]).map oid) vo' vd' W11) := by
         show PL _ _ _ _ _ _ _ _ _
         rw [List.map_append, List.map_singleton, ← HDx.out]
         exact HP12.out
        have HK1 : Hid ((os ++ [x]).length = k + 1) := by show _ = _; rw [List.length_append, hK.out]; rfl
        clear HP12
        go_wp2
        go_roundw
        case rel => exact ⟨k + 1, os ++ [x], vo', vd', by omega, by go_num, HRn, HK1, HP13⟩
        case measure => simp [intOf]; omega
       ·skip
        refine step_val rfl _ _ (ex_bslice 30 37 (.tmp 62) rfl 32 (bv D) rfl tIds zId (by decide) (by decide)) ?_
        refine hK.out _ _ (SA1.out _ ((Keep.refl _ _).alloc _)) (fun _ => ?_)
        clear hK K
        try simp only [Act.put, tA, tZ, tS]
        refine wpAnyH_ready (rs := [4]) (by kernel_rfl) (by simp) ?_
        refine AllReadyH.cons (o := ⟨some 61, .load 30 (.tmp 60), 30, "pack.go:144", #[⟨3, .data⟩], none⟩) rfl (fun K hK => ?_) AllReadyH.nil
        go_simp
        refine hK.out _ _ (SA1.out _ ((Keep.refl _ _).alloc _)) (fun _ => ?_)
        clear hK K
        try simp only [Act.put, tA, tZ, tS]
        refine wpAnyH_ready (rs := [7]) (by kernel_rfl) (by simp) ?_
        refine AllReadyH.cons (o := ⟨some 64, .call { callee := .builtin .append, args := #[.tmp 61, .tmp 63], argTypes := #[30, 30] }, 30, "pack.go:144", #[⟨4, .data⟩, ⟨6, .data⟩], none⟩) rfl (fun K hK => ?_) AllReadyH.nil
        refine step_append_run rfl (.tmp 61) (.tmp 63) 30 30 rfl vd _ _ W9 rfl rfl hr2 ?_
        refine hK.out _ _ (SA1.out _ KA11.out) (fun _ => ?_)
        clear hK K
        try simp only [Act.put, tA, tZ, tS]
        clear hr2
        refine wpAnyH_take (i := 8) (oi := ⟨some 65, .nilCheck (.tmp 57), 0, "pack.go:144", #[⟨0, .data⟩, ⟨0, .phase⟩, ⟨1, .phase⟩, ⟨2, .phase⟩, ⟨3, .phase⟩, ⟨4, .phase⟩, ⟨5, .phase⟩, ⟨6, .phase⟩, ⟨7, .phase⟩], none⟩) (v := ?_) rfl (by kernel_rfl) (by kernel_rfl) (by kernel_rfl) (fun _ _ _ h => h) (Or.inl ⟨by kernel_rfl, ?_⟩) (by assumption) ?_
        rotate_left 1
        ·(intro wS hSw; (try dsimp only at hSw); go_simp; try with_reducible rfl)
        try simp only [Act.put, tA, tZ, tS]
        refine wpAnyH_take (i := 9) (oi := ⟨some 66, .fieldAddr 86 (.tmp 65) 3, 0, "pack.go:144", #[⟨8, .data⟩, ⟨0, .phase⟩, ⟨1, .phase⟩, ⟨2, .phase⟩, ⟨3, .phase⟩, ⟨4, .phase⟩, ⟨5, .phase⟩, ⟨6, .phase⟩, ⟨7, .phase⟩], none⟩) (v := ?_) rfl (by kernel_rfl) (by kernel_rfl) (by kernel_rfl) (fun _ _ _ h => h) (Or.inl ⟨by kernel_rfl, ?_⟩) (by assumption) ?_
        rotate_left 1
        ·(intro wS hSw; (try dsimp only at hSw); go_simp; try with_reducible rfl)
        try simp only [Act.put, tA, tZ, tS]
        refine wpAnyH_ready (rs := [10]) (by kernel_rfl) (by simp) ?_
        refine AllReadyH.cons (o := ⟨none, .store 30 (.tmp 66) (.tmp 64), 0, "pack.go:144", #[⟨9, .data⟩, ⟨7, .data⟩, ⟨7, .chain⟩, ⟨0, .phase⟩, ⟨1, .phase⟩, ⟨2, .phase⟩, ⟨3, .phase⟩, ⟨4, .phase⟩, ⟨5, .phase⟩, ⟨6, .phase⟩, ⟨7, .phase⟩], none⟩) rfl (fun K hK => ?_) AllReadyH.nil
        go_simp
        refine hK.out _ _ (SE1.out) (fun _ => ?_)
        clear hK K
        try simp only [Act.put, tA, tZ, tS]
        refine wpAnyH_done (by kernel_rfl) ?_ _
        refine NoPanic.normal ?_
        clear S1 SA1 gA1 g3d q11 f11 KA11 P10 B9 HP9
        generalize W9.setCell ⟨w1.heap.size + 1, 3, none⟩ (.slice (some ⟨b2, 0, none⟩) (os.length + 1) c2) = w10 at HP11 SE1 ⊢
        generalize (.slice (some ⟨b2, 0, none⟩) (os.length + 1) c2 : Value) = vd' at HP11
        go_upto_region 16 with fail
        have S2 : w10.drew.cell? ⟨w1.heap.size + 1, 4, none⟩ = some (.map (some w1.heap.size)) ∧ Blk w10.drew iB 37 32 (bv D) := ⟨cell_of_row _ _ 4 _ _ _ HP11.out.bl, SE1.out⟩
        obtain ⟨W11, hup, P12, K12⟩ := (HP11.out.below (Below.refl _ _).drew).put D hx
        rw [List.length_map, hK.out] at hup
        have HP12 := Lib.hid P12
        have S3 : W11.cell? ⟨w1.heap.size + 1, 4, none⟩ = some (.map (some w1.heap.size)) ∧ Blk W11 iB 37 32 (bv D) := by
         exact ⟨cell_of_row _ _ 4 _ _ _ P12.bl, K12.blk (by show iB ≠ _; have := HIB.out; have := HW1.out; omega) SE1.out⟩
        clear P12 K12
        refine wp_region_noPanic ?_
        refine wp_region_held_drew (S := (fun W => W.cell? ⟨w1.heap.size + 1, 4, none⟩ = some (.map (some w1.heap.size)) ∧ Blk W iB 37 32 (bv D))) (by kernel_rfl) S2 (fun hHeld => ?_)
        refine wpAnyH_take (i := 0) (oi := ⟨some 67, .move (.tmp 6), 38, "pack.go:145", #[], none⟩) (v := ?_) rfl (by kernel_rfl) (by kernel_rfl) (by kernel_rfl) (fun _ _ _ h => h) (Or.inl ⟨by kernel_rfl, ?_⟩) (by assumption) ?_
        rotate_left 1
        ·(intro wS hSw; (try dsimp only at hSw); go_simp; try with_reducible rfl)
        try simp only [Act.put, tA, tZ, tS]
        refine wpAnyH_take (i := 1) (oi := ⟨some 68, .nilCheck (.tmp 67), 0, "pack.go:145", #[⟨0, .data⟩], none⟩) (v := ?_) rfl (by kernel_rfl) (by kernel_rfl) (by kernel_rfl) (fun _ _ _ h => h) (Or.inl ⟨by kernel_rfl, ?_⟩) (by assumption) ?_
        rotate_left 1
        ·(intro wS hSw; (try dsimp only at hSw); go_simp; try with_reducible rfl)
        try simp only [Act.put, tA, tZ, tS]
        refine wpAnyH_take (i := 2) (oi := ⟨some 69, .fieldAddr 86 (.tmp 68) 4, 0, "pack.go:145", #[⟨1, .data⟩], none⟩) (v := ?_) rfl (by kernel_rfl) (by kernel_rfl) (by kernel_rfl) (fun _ _ _ h => h) (Or.inl ⟨by kernel_rfl, ?_⟩) (by assumption) ?_
        rotate_left 1
        ·(intro wS hSw; (try dsimp only at hSw); go_simp; try with_reducible rfl)
        try simp only [Act.put, tA, tZ, tS]
        refine wpAnyH_take (i := 3) (oi := ⟨some 70, .load 84 (.tmp 69), 84, "pack.go:145", #[⟨2, .data⟩], none⟩) (v := ?_) rfl (by kernel_rfl) (by kernel_rfl) (by kernel_rfl) (fun _ _ _ h => h) (Or.inl ⟨by kernel_rfl, ?_⟩) (by assumption) ?_
        rotate_left 1
        ·(intro wS hSw; (try dsimp only at hSw); go_simp; try with_reducible rfl)
        try simp only [Act.put, tA, tZ, tS]
        refine wpAnyH_take (i := 4) (oi := ⟨some 71, .load 37 (.tmp 11), 37, "pack.go:145", #[], none⟩) rfl (by kernel_rfl) (by kernel_rfl) (by kernel_rfl) (fun _ _ _ h => h) (Or.inl ⟨by kernel_rfl, fun wS hSw => ex_load 37 (.tmp 11) rfl iB 0 32 (bv D) rfl ty30 rfl sz30 hSw.2.at0⟩) (by assumption) ?_
        try simp only [Act.put, tA, tZ, tS]
        refine wpAnyH_take (i := 5) (oi := ⟨some 72, .move (.tmp 7), 3, "pack.go:145", #[], none⟩) (v := ?_) rfl (by kernel_rfl) (by kernel_rfl) (by kernel_rfl) (fun _ _ _ h => h) (Or.inl ⟨by kernel_rfl, ?_⟩) (by assumption) ?_
        rotate_left 1
        ·(intro wS hSw; (try dsimp only at hSw); go_simp; try with_reducible rfl)
        try simp only [Act.put, tA, tZ, tS]
        refine wpAnyH_ready (rs := [6]) (by kernel_rfl) (by simp) ?_
        refine AllReadyH.cons (o := ⟨none, .mapUpdate 84 (.tmp 70) (.tmp 71) (.tmp 72), 0, "pack.go:145", #[⟨3, .data⟩, ⟨4, .data⟩, ⟨5, .data⟩, ⟨0, .phase⟩, ⟨1, .phase⟩, ⟨2, .phase⟩, ⟨3, .phase⟩, ⟨4, .phase⟩, ⟨5, .phase⟩], none⟩) rfl (fun K hK => ?_) AllReadyH.nil
        refine step_unit rfl W11 (ex_update 84 (.tmp 70) (.tmp 71) (.tmp 72) rfl _ _ _ rfl rfl rfl hup) ?_
        refine hK.out _ _ (S3) (fun _ => ?_)
        clear hK K
        try simp only [Act.put, tA, tZ, tS]
        refine wpAnyH_done (by kernel_rfl) ?_ _
        refine NoPanic.normal ?_
        clear hup S2 S3 SE1 HP11
        have HP13 : Hid (PL w1 (.slice av nv cv) (.slice none 0 0) (os ++ [x]) ((os ++ [x]).map oid) ((os ++ [x]).map oid) vo' vd' W11) := by
         show PL _ _ _ _ _ _ _ _ _
         rw [List.map_append, List.map_singleton, ← HDx.out]
         exact HP12.out
        have HK1 : Hid ((os ++ [x]).length = k + 1) := by show _ = _; rw [List.length_append, hK.out]; rfl
        clear HP12
        go_wp2
        go_roundw
        case rel => exact ⟨k + 1, os ++ [x], vo', vd', by omega, by go_num, HRn, HK1, HP13⟩
        case measure => simp [intOf]; omega
      ·skip
       go_simp
       refine hK.out _ _ (SA.out _ ((Keep.refl _ _).alloc _)) (fun _ => ?_)
       clear hK K
       try simp only [Act.put, tA, tZ, tS]
       refine wpAnyH_ready (rs := [4]) (by kernel_rfl) (by simp) ?_
       refine AllReadyH.cons (o := ⟨some 51, .load 29 (.tmp 50), 29, "pack.go:143", #[⟨3, .data⟩], none⟩) rfl (fun K hK => ?_) AllReadyH.nil
       go_simp
       refine hK.out _ _ (SA.out _ ((Keep.refl _ _).alloc _)) (fun _ => ?_)
       clear hK K
       try simp only [Act.put, tA, tZ, tS]
       refine wpAnyH_ready (rs := [7]) (by kernel_rfl) (by simp) ?_
       refine AllReadyH.cons (o := ⟨some 54, .call { callee := .builtin .append, args := #[.tmp 51, .tmp 53], argTypes := #[29, 29] }, 29, "pack.go:143", #[⟨4, .data⟩, ⟨6, .data⟩], none⟩) rfl (fun K hK => ?_) AllReadyH.nil
       refine step_append_run rfl (.tmp 51) (.tmp 53) 29 29 rfl vo _ _ W7 rfl rfl hr ?_
       refine hK.out _ _ (SA.out _ KA9.out) (fun _ => ?_)
       clear hK K
       try simp only [Act.put, tA, tZ, tS]
       clear hr
       refine wpAnyH_take (i := 8) (oi := ⟨some 55, .nilCheck (.tmp 47), 0, "pack.go:143", #[⟨0, .data⟩, ⟨0, .phase⟩, ⟨1, .phase⟩, ⟨2, .phase⟩, ⟨3, .phase⟩, ⟨4, .phase⟩, ⟨5, .phase⟩, ⟨6, .phase⟩, ⟨7, .phase⟩], none⟩) (v := ?_) rfl (by kernel_rfl) (by kernel_rfl) (by kernel_rfl) (fun _ _ _ h => h) (Or.inl ⟨by kernel_rfl, ?_⟩) (by assumption) ?_
       rotate_left 1
       ·(intro wS hSw; (try dsimp only at hSw); go_simp; try with_reducible rfl)
       try simp only [Act.put, tA, tZ, tS]
       refine wpAnyH_take (i := 9) (oi := ⟨some 56, .fieldAddr 86 (.tmp 55) 2, 0, "pack.go:143", #[⟨8, .data⟩, ⟨0, .phase⟩, ⟨1, .phase⟩, ⟨2, .phase⟩, ⟨3, .phase⟩, ⟨4, .phase⟩, ⟨5, .phase⟩, ⟨6, .phase⟩, ⟨7, .phase⟩], none⟩) (v := ?_) rfl (by kernel_rfl) (by kernel_rfl) (by kernel_rfl) (fun _ _ _ h => h) (Or.inl ⟨by kernel_rfl, ?_⟩) (by assumption) ?_
       rotate_left 1
       ·(intro wS hSw; (try dsimp only at hSw); go_simp; try with_reducible rfl)
       try simp only [Act.put, tA, tZ, tS]
       refine wpAnyH_ready (rs := [10]) (by kernel_rfl) (by simp) ?_
       refine AllReadyH.cons (o := ⟨none, .store 29 (.tmp 56) (.tmp 54), 0, "pack.go:143", #[⟨9, .data⟩, ⟨7, .data⟩, ⟨7, .chain⟩, ⟨0, .phase⟩, ⟨1, .phase⟩, ⟨2, .phase⟩, ⟨3, .phase⟩, ⟨4, .phase⟩, ⟨5, .phase⟩, ⟨6, .phase⟩, ⟨7, .phase⟩], none⟩) rfl (fun K hK => ?_) AllReadyH.nil
       go_simp
       refine hK.out _ _ (SE.out) (fun _ => ?_)
       clear hK K
       try simp only [Act.put, tA, tZ, tS]
       refine wpAnyH_done (by kernel_rfl) ?_ _
       refine NoPanic.normal ?_
       clear S0 SA SE gA g2d q9 f9 KA9 P8 O7 B7 P7
       generalize W7.setCell ⟨w1.heap.size + 1, 2, none⟩ (.slice (some ⟨b1, 0, none⟩) (os.length + 1) c1) = w8 at HP9 B9 ⊢
       generalize (.slice (some ⟨b1, 0, none⟩) (os.length + 1) c1 : Value) = vo' at HP9
       go_upto_region 15 with fail
       have g3 := HP9.out.bl
       have g30 := cell_of_row _ _ 3 _ _ _ g3
       have S1 : Blk w8.drew iB 37 32 (bv D) := B9.out
       have P10 := Lib.hid (HP9.out.below (Below.refl _ _).drew)
       obtain ⟨b2, c2, W9, hr2, P11, q11, f11, K11⟩ := P10.out.idd D (by have := hK.out; rw [List.length_map]; omega)
       rw [List.length_map] at hr2 P11
       have HP11 := Lib.hid P11
       have KA11 := Lib.hid K11
       have SA1 : Hid (∀ W, Keep (fun j => vd.ownBlock ≠ some j) w8.drew W → Blk W iB 37 32 (bv D)) := fun W hW => by
        have n2 : vd.ownBlock ≠ some iB := fun h => by have := HVD.out _ h; have := HIB.out; omega
        exact hW.blk n2 S1
       have SE1 : Hid (Blk (W9.setCell ⟨w1.heap.size + 1, 3, none⟩ (.slice (some ⟨b2, 0, none⟩) (os.length + 1) c2)) iB 37 32 (bv D)) := by
        have n3 : iB ≠ w1.heap.size + 1 := by have := HIB.out; have := HW1.out; omega
        show Blk _ _ _ _ _
        exact ((Keep.refl (fun j => j ≠ w1.heap.size + 1) W9).setCell (fun h => h rfl) _).blk n3 (SA1.out _ K11)
       have gA1 : (w8.alloc (.cells (arr 32 (bv D)) 37)).cell? ⟨w1.heap.size + 1, 3, none⟩ = some vd := by
        rw [((Below.refl w8.heap.size w8).alloc (Nat.le_refl _) _).cell (show w1.heap.size + 1 < w8.heap.size from P10.out.lt)]; exact g30
       have g3d : w8.drew.cell? ⟨w1.heap.size + 1, 3, none⟩ = some vd := g30
       clear P11 K11 g3 g30
       refine wp_region_noPanic ?_
       refine wp_region_held_drew (S := (fun W => Blk W iB 37 32 (bv D))) (by kernel_rfl) S1 (fun hHeld => ?_)
       refine wpAnyH_take (i := 0) (oi := ⟨some 57, .move (.tmp 6), 38, "pack.go:144", #[], none⟩) (v := ?_) rfl (by kernel_rfl) (by kernel_rfl) (by kernel_rfl) (fun _ _ _ h => h) (Or.inl ⟨by kernel_rfl, ?_⟩) (by assumption) ?_
       rotate_left 1
       ·(intro wS hSw; (try dsimp only at hSw); go_simp; try with_reducible rfl)
       try simp only [Act.put, tA, tZ, tS]
       refine wpAnyH_take (i := 1) (oi := ⟨some 58, .move (.tmp 6), 38, "pack.go:144", #[], none⟩) (v := ?_) rfl (by kernel_rfl) (by kernel_rfl) (by kernel_rfl) (fun _ _ _ h => h) (Or.inl ⟨by kernel_rfl, ?_⟩) (by assumption) ?_
       rotate_left 1
       ·(intro wS hSw; (try dsimp only at hSw); go_simp; try with_reducible rfl)
       try simp only [Act.put, tA, tZ, tS]
       refine wpAnyH_take (i := 2) (oi := ⟨some 59, .nilCheck (.tmp 58), 0, "pack.go:144", #[⟨1, .data⟩], none⟩) (v := ?_) rfl (by kernel_rfl) (by kernel_rfl) (by kernel_rfl) (fun _ _ _ h => h) (Or.inl ⟨by kernel_rfl, ?_⟩) (by assumption) ?_
       rotate_left 1
       ·(intro wS hSw; (try dsimp only at hSw); go_simp; try with_reducible rfl)
       try simp only [Act.put, tA, tZ, tS]
       refine wpAnyH_take (i := 3) (oi := ⟨some 60, .fieldAddr 86 (.tmp 59) 3, 0, "pack.go:144", #[⟨2, .data⟩], none⟩) (v := ?_) rfl (by kernel_rfl) (by kernel_rfl) (by kernel_rfl) (fun _ _ _ h => h) (Or.inl ⟨by kernel_rfl, ?_⟩) (by assumption) ?_
       rotate_left 1
       ·(intro wS hSw; (try dsimp only at hSw); go_simp; try with_reducible rfl)
       try simp only [Act.put, tA, tZ, tS]
       refine wpAnyH_take (i := 5) (oi := ⟨some 62, .load 37 (.tmp 11), 37, "pack.go:144", #[], none⟩) rfl (by kernel_rfl) (by kernel_rfl) (by kernel_rfl) (fun _ _ _ h => h) (Or.inl ⟨by kernel_rfl, fun wS hSw => ex_load 37 (.tmp 11) rfl iB 0 32 (bv D) rfl ty30 rfl sz30 hSw.at0⟩) (by assumption) ?_
       try simp only [Act.put, tA, tZ, tS]
       refine wpAnyH_ready (rs := [4, 6]) (by kernel_rfl) (by simp) ?_
       refine AllReadyH.cons (o := ⟨some 61, .load 30 (.tmp 60), 30, "pack.go:144", #[⟨3, .data⟩], none⟩) rfl (fun K hK => ?_) (AllReadyH.cons (o := ⟨some 63, .buildSlice 30 1 #[(0, .tmp 62)], 30, "pack.go:144", #[⟨5, .data⟩], none⟩) rfl (fun K hK => ?_) AllReadyH.nil)
       ·skip
        go_simp
        refine hK.out _ _ (S1) (fun _ => ?_)
        clear hK K
        try simp only [Act.put, tA, tZ, tS]
        refine wpAnyH_ready (rs := [6]) (by kernel_rfl) (by simp) ?_
        refine AllReadyH.cons (o := ⟨some 63, .buildSlice 30 1 #[(0, .tmp 62)], 30, "pack.go:144", #[⟨5, .data⟩], none⟩) rfl (fun K hK => ?_) AllReadyH.nil
        refine step_val rfl _ _ (ex_bslice 30 37 (.tmp 62) rfl 32 (bv D) rfl tIds zId (by decide) (by decide)) ?_
        refine hK.out _ _ (SA1.out _ ((Keep.refl _ _).alloc _)) (fun _ => ?_)
        clear hK K
        try simp only [Act.put, tA, tZ, tS]
        refine wpAnyH_ready (rs := [7]) (by kernel_rfl) (by simp) ?_
        refine AllReadyH.cons (o := ⟨some 64, .call { callee := .builtin .append, args := #[.tmp 61, .tmp 63], argTypes := #[30, 30] }, 30, "pack.go:144", #[⟨4, .data⟩, ⟨6, .data⟩], none⟩) rfl (fun K hK => ?_) AllReadyH.nil
        refine step_append_run rfl (.tmp 61) (.tmp 63) 30 30 rfl vd _ _ W9 rfl rfl hr2 ?_
        refine hK.out _ _ (SA1.out _ KA11.out) (fun _ => ?_)
        clear hK K
        try simp only [Act.put, tA, tZ, tS]
        clear hr2
        refine wpAnyH_take (i := 8) (oi := ⟨some 65, .nilCheck (.tmp 57), 0, "pack.go:144", #[⟨0, .data⟩, ⟨0, .phase⟩, ⟨1, .phase⟩, ⟨2, .phase⟩, ⟨3, .phase⟩, ⟨4, .phase⟩, ⟨5, .phase⟩, ⟨6, .phase⟩, ⟨7, .phase⟩], none⟩) (v := ?_) rfl (by kernel_rfl) (by kernel_rfl) (by kernel_rfl) (fun _ _ _ h => h) (Or.inl ⟨by kernel_rfl, ?_⟩) (by assumption) ?_
        rotate_left 1
        ·(intro wS hSw; (try dsimp only at hSw); go_simp; try with_reducible rfl)
        try simp only [Act.put, tA, tZ, tS]
        refine wpAnyH_take (i := 9) (oi := ⟨some 66, .fieldAddr 86 (.tmp 65) 3, 0, "pack.go:144", #[⟨8, .data⟩, ⟨0, .phase⟩, ⟨1, .phase⟩, ⟨2, .phase⟩, ⟨3, .phase⟩, ⟨4, .phase⟩, ⟨5, .phase⟩, ⟨6, .phase⟩, ⟨7, .phase⟩], none⟩) (v := ?_) rfl (by kernel_rfl) (by kernel_rfl) (by kernel_rfl) (fun _ _ _ h => h) (Or.inl ⟨by kernel_rfl, ?_⟩) (by assumption) ?_
        rotate_left 1
        ·(intro wS hSw; (try dsimp only at hSw); go_simp; try with_reducible rfl)
        try simp only [Act.put, tA, tZ, tS]
        refine wpAnyH_ready (rs := [10]) (by kernel_rfl) (by simp) ?_
        refine AllReadyH.cons (o := ⟨none, .store 30 (.tmp 66) (.tmp 64), 0, "pack.go:144", #[⟨9, .data⟩, ⟨7, .data⟩, ⟨7, .chain⟩, ⟨0, .phase⟩, ⟨1, .phase⟩, ⟨2, .phase⟩, ⟨3, .phase⟩, ⟨4, .phase⟩, ⟨5, .phase⟩, ⟨6, .phase⟩, ⟨7, .phase⟩], none⟩) rfl (fun K hK => ?_) AllReadyH.nil
        go_simp
        refine hK.out _ _ (SE1.out) (fun _ => ?_)
        clear hK K
        try simp only [Act.put, tA, tZ, tS]
        refine wpAnyH_done (by kernel_rfl) ?_ _
        refine NoPanic.normal ?_
        clear S1 SA1 gA1 g3d q11 f11 KA11 P10 B9 HP9
        generalize W9.setCell ⟨w1.heap.size + 1, 3, none⟩ (.slice (some ⟨b2, 0, none⟩) (os.length + 1) c2) = w10 at HP11 SE1 ⊢
        generalize (.slice (some ⟨b2, 0, none⟩) (os.length + 1) c2 : Value) = vd' at HP11
        go_upto_region 16 with fail
        have S2 : w10.drew.cell? ⟨w1.heap.size + 1, 4, none⟩ = some (.map (some w1.heap.size)) ∧ Blk w10.drew iB 37 32 (bv D) := ⟨cell_of_row _ _ 4 _ _ _ HP11.out.bl, SE1.out⟩
        obtain ⟨W11, hup, P12, K12⟩ := (HP11.out.below (Below.refl _ _).drew).put D hx
        rw [List.length_map, hK.out] at hup
        have HP12 := Lib.hid P12
        have S3 : W11.cell? ⟨w1.heap.size + 1, 4, none⟩ = some (.map (some w1.heap.size)) ∧ Blk W11 iB 37 32 (bv D) := by
         exact ⟨cell_of_row _ _ 4 _ _ _ P12.bl, K12.blk (by show iB ≠ _; have := HIB.out; have := HW1.out; omega) SE1.out⟩
        clear P12 K12
        refine wp_region_noPanic ?_
        refine wp_region_held_drew (S := (fun W => W.cell? ⟨w1.heap.size + 1, 4, none⟩ = some (.map (some w1.heap.size)) ∧ Blk W iB 37 32 (bv D))) (by kernel_rfl) S2 (fun hHeld => ?_)
        refine wpAnyH_take (i := 0) (oi := ⟨some 67, .move (.tmp 6), 38, "pack.go:145", #[], none⟩) (v := ?_) rfl (by kernel_rfl) (by kernel_rfl) (by kernel_rfl) (fun _ _ _ h => h) (Or.inl ⟨by kernel_rfl, ?_⟩) (by assumption) ?_
        rotate_left 1
        ·(intro wS hSw; (try dsimp only at hSw); go_simp; try with_reducible rfl)
        try simp only [Act.put, tA, tZ, tS]
        refine wpAnyH_take (i := 1) (oi := ⟨some 68, .nilCheck (.tmp 67), 0, "pack.go:145", #[⟨0, .data⟩], none⟩) (v := ?_) rfl (by kernel_rfl) (by kernel_rfl) (by kernel_rfl) (fun _ _ _ h => h) (Or.inl ⟨by kernel_rfl, ?_⟩) (by assumption) ?_
        rotate_left 1
        ·(intro wS hSw; (try dsimp only at hSw); go_simp; try with_reducible rfl)
        try simp only [Act.put, tA, tZ, tS]
        refine wpAnyH_take (i := 2) (oi := ⟨some 69, .fieldAddr 86 (.tmp 68) 4, 0, "pack.go:145", #[⟨1, .data⟩], none⟩) (v := ?_) rfl (by kernel_rfl) (by kernel_rfl) (by kernel_rfl) (fun _ _ _ h => h) (Or.inl ⟨by kernel_rfl, ?_⟩) (by assumption) ?_
        rotate_left 1
        ·(intro wS hSw; (try dsimp only at hSw); go_simp; try with_reducible rfl)
        try simp only [Act.put, tA, tZ, tS]
        refine wpAnyH_take (i := 3) (oi := ⟨some 70, .load 84 (.tmp 69), 84, "pack.go:145", #[⟨2, .data⟩], none⟩) (v := ?_) rfl (by kernel_rfl) (by kernel_rfl) (by kernel_rfl) (fun _ _ _ h => h) (Or.inl ⟨by kernel_rfl, ?_⟩) (by assumption) ?_
        rotate_left 1
        ·(intro wS hSw; (try dsimp only at hSw); go_simp; try with_reducible rfl)
        try simp only [Act.put, tA, tZ, tS]
        refine wpAnyH_take (i := 4) (oi := ⟨some 71, .load 37 (.tmp 11), 37, "pack.go:145", #[], none⟩) rfl (by kernel_rfl) (by kernel_rfl) (by kernel_rfl) (fun _ _ _ h => h) (Or.inl ⟨by kernel_rfl, fun wS hSw => ex_load 37 (.tmp 11) rfl iB 0 32 (bv D) rfl ty30 rfl sz30 hSw.2.at0⟩) (by assumption) ?_
        try simp only [Act.put, tA, tZ, tS]
        refine wpAnyH_take (i := 5) (oi := ⟨some 72, .move (.tmp 7), 3, "pack.go:145", #[], none⟩) (v := ?_) rfl (by kernel_rfl) (by kernel_rfl) (by kernel_rfl) (fun _ _ _ h => h) (Or.inl ⟨by kernel_rfl, ?_⟩) (by assumption) ?_
        rotate_left 1
        ·(intro wS hSw; (try dsimp only at hSw); go_simp; try with_reducible rfl)
        try simp only [Act.put, tA, tZ, tS]
        refine wpAnyH_ready (rs := [6]) (by kernel_rfl) (by simp) ?_
        refine AllReadyH.cons (o := ⟨none, .mapUpdate 84 (.tmp 70) (.tmp 71) (.tmp 72), 0, "pack.go:145", #[⟨3, .data⟩, ⟨4, .data⟩, ⟨5, .data⟩, ⟨0, .phase⟩, ⟨1, .phase⟩, ⟨2, .phase⟩, ⟨3, .phase⟩, ⟨4, .phase⟩, ⟨5, .phase⟩], none⟩) rfl (fun K hK => ?_) AllReadyH.nil
        refine step_unit rfl W11 (ex_update 84 (.tmp 70) (.tmp 71) (.tmp 72) rfl _ _ _ rfl rfl rfl hup) ?_
        refine hK.out _ _ (S3) (fun _ => ?_)
        clear hK K
        try simp only [Act.put, tA, tZ, tS]
        refine wpAnyH_done (by kernel_rfl) ?_ _
        refine NoPanic.normal ?_
        clear hup S2 S3 SE1 HP11
        have HP13 : Hid (PL w1 (.slice av nv cv) (.slice none 0 0) (os ++ [x]) ((os ++ [x]).map oid) ((os ++ [x]).map oid) vo' vd' W11) := by
         show PL _ _ _ _ _ _ _ _ _
         rw [List.map_append, List.map_singleton, ← HDx.out]
         exact HP12.out
        have HK1 : Hid ((os ++ [x]).length = k + 1) := by show _ = _; rw [List.length_append, hK.out]; rfl
        clear HP12
        go_wp2
        go_roundw
        case rel => exact ⟨k + 1, os ++ [x], vo', vd', by omega, by go_num, HRn, HK1, HP13⟩
        case measure => simp [intOf]; omega
       ·skip
        refine step_val rfl _ _ (ex_bslice 30 37 (.tmp 62) rfl 32 (bv D) rfl tIds zId (by decide) (by decide)) ?_
        refine hK.out _ _ (SA1.out _ ((Keep.refl _ _).alloc _)) (fun _ => ?_)
        clear hK K
        try simp only [Act.put, tA, tZ, tS]
        refine wpAnyH_ready (rs := [4]) (by kernel_rfl) (by simp) ?_
        refine AllReadyH.cons (o := ⟨some 61, .load 30 (.tmp 60), 30, "pack.go:144", #[⟨3, .data⟩], none⟩) rfl (fun K hK => ?_) AllReadyH.nil
        go_simp
        refine hK.out _ _ (SA1.out _ ((Keep.refl _ _).alloc _)) (fun _ => ?_)
        clear hK K
        try simp only [Act.put, tA, tZ, tS]
        refine wpAnyH_ready (rs := [7]) (by kernel_rfl) (by simp) ?_
        refine AllReadyH.cons (o := ⟨some 64, .call { callee := .builtin .append, args := #[.tmp 61, .tmp 63], argTypes := #[30, 30] }, 30, "pack.go:144", #[⟨4, .data⟩, ⟨6, .data⟩], none⟩) rfl (fun K hK => ?_) AllReadyH.nil
        refine step_append_run rfl (.tmp 61) (.tmp 63) 30 30 rfl vd _ _ W9 rfl rfl hr2 ?_
        refine hK.out _ _ (SA1.out _ KA11.out) (fun _ => ?_)
        clear hK K
        try simp only [Act.put, tA, tZ, tS]
        clear hr2
        refine wpAnyH_take (i := 8) (oi := ⟨some 65, .nilCheck (.tmp 57), 0, "pack.go:144", #[⟨0, .data⟩, ⟨0, .phase⟩, ⟨1, .phase⟩, ⟨2, .phase⟩, ⟨3, .phase⟩, ⟨4, .phase⟩, ⟨5, .phase⟩, ⟨6, .phase⟩, ⟨7, .phase⟩], none⟩) (v := ?_) rfl (by kernel_rfl) (by kernel_rfl) (by kernel_rfl) (fun _ _ _ h => h) (Or.inl ⟨by kernel_rfl, ?_⟩) (by assumption) ?_
        rotate_left 1
        ·(intro wS hSw; (try dsimp only at hSw); go_simp; try with_reducible rfl)
        try simp only [Act.put, tA, tZ, tS]
        refine wpAnyH_take (i := 9) (oi := ⟨some 66, .fieldAddr 86 (.tmp 65) 3, 0, "pack.go:144", #[⟨8, .data⟩, ⟨0, .phase⟩, ⟨1, .phase⟩, ⟨2, .phase⟩, ⟨3, .phase⟩, ⟨4, .phase⟩, ⟨5, .phase⟩, ⟨6, .phase⟩, ⟨7, .phase⟩], none⟩) (v := ?_) rfl (by kernel_rfl) (by kernel_rfl) (by kernel_rfl) (fun _ _ _ h => h) (Or.inl ⟨by kernel_rfl, ?_⟩) (by assumption) ?_
        rotate_left 1
        ·(intro wS hSw; (try dsimp only at hSw); go_simp; try with_reducible rfl)
        try simp only [Act.put, tA, tZ, tS]
        refine wpAnyH_ready (rs := [10]) (by kernel_rfl) (by simp) ?_
        refine AllReadyH.cons (o := ⟨none, .store 30 (.tmp 66) (.tmp 64), 0, "pack.go:144", #[⟨9, .data⟩, ⟨7, .data⟩, ⟨7, .chain⟩, ⟨0, .phase⟩, ⟨1, .phase⟩, ⟨2, .phase⟩, ⟨3, .phase⟩, ⟨4, .phase⟩, ⟨5, .phase⟩, ⟨6, .phase⟩, ⟨7, .phase⟩], none⟩) rfl (fun K hK => ?_) AllReadyH.nil
        go_simp
        refine hK.out _ _ (SE1.out) (fun _ => ?_)
        clear hK K
        try simp only [Act.put, tA, tZ, tS]
        refine wpAnyH_done (by kernel_rfl) ?_ _
        refine NoPanic.normal ?_
        clear S1 SA1 gA1 g3d q11 f11 KA11 P10 B9 HP9
        generalize W9.setCell ⟨w1.heap.size + 1, 3, none⟩ (.slice (some ⟨b2, 0, none⟩) (os.length + 1) c2) = w10 at HP11 SE1 ⊢
        generalize (.slice (some ⟨b2, 0, none⟩) (os.length + 1) c2 : Value) = vd' at HP11
        go_upto_region 16 with fail
        have S2 : w10.drew.cell? ⟨w1.heap.size + 1, 4, none⟩ = some (.map (some w1.heap.size)) ∧ Blk w10.drew iB 37 32 (bv D) := ⟨cell_of_row _ _ 4 _ _ _ HP11.out.bl, SE1.out⟩
        obtain ⟨W11, hup, P12, K12⟩ := (HP11.out.below (Below.refl _ _).drew).put D hx
        rw [List.length_map, hK.out] at hup
        have HP12 := Lib.hid P12
        have S3 : W11.cell? ⟨w1.heap.size + 1, 4, none⟩ = some (.map (some w1.heap.size)) ∧ Blk W11 iB 37 32 (bv D) := by
         exact ⟨cell_of_row _ _ 4 _ _ _ P12.bl, K12.blk (by show iB ≠ _; have := HIB.out; have := HW1.out; omega) SE1.out⟩
        clear P12 K12
        refine wp_region_noPanic ?_
        refine wp_region_held_drew (S := (fun W => W.cell? ⟨w1.heap.size + 1, 4, none⟩ = some (.map (some w1.heap.size)) ∧ Blk W iB 37 32 (bv D))) (by kernel_rfl) S2 (fun hHeld => ?_)
        refine wpAnyH_take (i := 0) (oi := ⟨some 67, .move (.tmp 6), 38, "pack.go:145", #[], none⟩) (v := ?_) rfl (by kernel_rfl) (by kernel_rfl) (by kernel_rfl) (fun _ _ _ h => h) (Or.inl ⟨by kernel_rfl, ?_⟩) (by assumption) ?_
        rotate_left 1
        ·(intro wS hSw; (try dsimp only at hSw); go_simp; try with_reducible rfl)
        try simp only [Act.put, tA, tZ, tS]
        refine wpAnyH_take (i := 1) (oi := ⟨some 68, .nilCheck (.tmp 67), 0, "pack.go:145", #[⟨0, .data⟩], none⟩) (v := ?_) rfl (by kernel_rfl) (by kernel_rfl) (by kernel_rfl) (fun _ _ _ h => h) (Or.inl ⟨by kernel_rfl, ?_⟩) (by assumption) ?_
        rotate_left 1
        ·(intro wS hSw; (try dsimp only at hSw); go_simp; try with_reducible rfl)
        try simp only [Act.put, tA, tZ, tS]
        refine wpAnyH_take (i := 2) (oi := ⟨some 69, .fieldAddr 86 (.tmp 68) 4, 0, "pack.go:145", #[⟨1, .data⟩], none⟩) (v := ?_) rfl (by kernel_rfl) (by kernel_rfl) (by kernel_rfl) (fun _ _ _ h => h) (Or.inl ⟨by kernel_rfl, ?_⟩) (by assumption) ?_
        rotate_left 1
        ·(intro wS hSw; (try dsimp only at hSw); go_simp; try with_reducible rfl)
        try simp only [Act.put, tA, tZ, tS]
        refine wpAnyH_take (i := 3) (oi := ⟨some 70, .load 84 (.tmp 69), 84, "pack.go:145", #[⟨2, .data⟩], none⟩) (v := ?_) rfl (by kernel_rfl) (by kernel_rfl) (by kernel_rfl) (fun _ _ _ h => h) (Or.inl ⟨by kernel_rfl, ?_⟩) (by assumption) ?_
        rotate_left 1
        ·(intro wS hSw; (try dsimp only at hSw); go_simp; try with_reducible rfl)
        try simp only [Act.put, tA, tZ, tS]
        refine wpAnyH_take (i := 4) (oi := ⟨some 71, .load 37 (.tmp 11), 37, "pack.go:145", #[], none⟩) rfl (by kernel_rfl) (by kernel_rfl) (by kernel_rfl) (fun _ _ _ h => h) (Or.inl ⟨by kernel_rfl, fun wS hSw => ex_load 37 (.tmp 11) rfl iB 0 32 (bv D) rfl ty30 rfl sz30 hSw.2.at0⟩) (by assumption) ?_
        try simp only [Act.put, tA, tZ, tS]
        refine wpAnyH_take (i := 5) (oi := ⟨some 72, .move (.tmp 7), 3, "pack.go:145", #[], none⟩) (v := ?_) rfl (by kernel_rfl) (by kernel_rfl) (by kernel_rfl) (fun _ _ _ h => h) (Or.inl ⟨by kernel_rfl, ?_⟩) (by assumption) ?_
        rotate_left 1
        ·(intro wS hSw; (try dsimp only at hSw); go_simp; try with_reducible rfl)
        try simp only [Act.put, tA, tZ, tS]
        refine wpAnyH_ready (rs := [6]) (by kernel_rfl) (by simp) ?_
        refine AllReadyH.cons (o := ⟨none, .mapUpdate 84 (.tmp 70) (.tmp 71) (.tmp 72), 0, "pack.go:145", #[⟨3, .data⟩, ⟨4, .data⟩, ⟨5, .data⟩, ⟨0, .phase⟩, ⟨1, .phase⟩, ⟨2, .phase⟩, ⟨3, .phase⟩, ⟨4, .phase⟩, ⟨5, .phase⟩], none⟩) rfl (fun K hK => ?_) AllReadyH.nil
        refine step_unit rfl W11 (ex_update 84 (.tmp 70) (.tmp 71) (.tmp 72) rfl _ _ _ rfl rfl rfl hup) ?_
        refine hK.out _ _ (S3) (fun _ => ?_)
        clear hK K
        try simp only [Act.put, tA, tZ, tS]
        refine wpAnyH_done (by kernel_rfl) ?_ _
        refine NoPanic.normal ?_
        clear hup S2 S3 SE1 HP11
        have HP13 : Hid (PL w1 (.slice av nv cv) (.slice none 0 0) (os ++ [x]) ((os ++ [x]).map oid) ((os ++ [x]).map oid) vo' vd' W11) := by
         show PL _ _ _ _ _ _ _ _ _
         rw [List.map_append, List.map_singleton, ← HDx.out]
         exact HP12.out
        have HK1 : Hid ((os ++ [x]).length = k + 1) := by show _ = _; rw [List.length_append, hK.out]; rfl
        clear HP12
        go_wp2
        go_roundw
        case rel => exact ⟨k + 1, os ++ [x], vo', vd', by omega, by go_num, HRn, HK1, HP13⟩
        case measure => simp [intOf]; omega
     ·have fz0 : 0 ≤ fz := by
       by_cases c : 0 ≤ fz
       ·exact c
       ·exact absurd (hfn.1 (by omega)) hx
      have HRn := Lib.hid (HFx.out.1 hx)
      have HL : Hid (Below w.heap.size w w6) := KW.out.trans (L7.out.mono KW.out.size)
      clear hfn HFx
      go_wp2
      go_ret2
      exact ⟨HL.out, Or.inr ⟨HRn.out, rfl⟩⟩
   ·have e : k = n := by omega
    subst e
    have HF : Hid (R = some os) := by show _ = _; rw [hE.out, List.drop_of_length_le (by rw [← HN.out]; exact Nat.le_refl _)]; rfl
    have KW : Hid (Below w.heap.size w wr) := L1.out.trans (hP.out.kp.mono L1.out.size)
    clear hlt hE
    go_wp2
    go_ret2
    exact ⟨KW.out, Or.inl ⟨os, HF.out, w1, vo, vd, L1.out, rfl, hP.out⟩⟩
 ·rw [if_neg h0] at hR
  have HR0 := Lib.hid hR
  clear hR HS hlen
  go_enter Tryz.func24, Tryz.ntmps24
  go_wp2_with fail
  refine (C1.out _ HV.out).mono ?_
  rintro e w1 ⟨u, rfl, hO, B1⟩
  clear hO C1
  go_wp2
  go_ret2
  exact ⟨B1, Or.inr ⟨HR0.out, rfl⟩⟩
end Go.Proofs.YtnmjcpoobabjgaaGreatDoor
