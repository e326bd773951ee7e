import Derived.Test.YtnmjcpoobabjgaaGreatDoorJD
import Derived.Test.YtnmjcpoobabjgaaGreatDoorJE
set_option linter.unusedVariables false
set_option linter.unusedSimpArgs false
/- The pack of any bytes is the document's; no pack has nothing. -/
namespace Go.Proofs.YtnmjcpoobabjgaaGreatDoor
set_option maxRecDepth 100000
open Go.RowKit Classical
theorem pobject_nil (i : Int) (w : World) : Calls Tryz.prog 14 #[.pointer none, .int .i64 i] w fun e w' => e = .returned (.tuple #[.agg #[.int .i64 0, .string ⟨#[]⟩], .bool false]) ∧ Below w.heap.size w w' := by
 have hb : Below w.heap.size w (w.alloc (.cells #[.int .i64 0, .string ⟨#[]⟩] 43)) := (Below.refl _ _).alloc (Nat.le_refl _) _
 have C := Lib.hid (fun W => phas_nil (w := W) i)
 have L1 := Lib.hid hb
 have HN : Hid ((w.alloc (.cells #[.int .i64 0, .string ⟨#[]⟩] 43)).heap[w.heap.size]? = some (.cells #[.int .i64 0, .string ⟨#[]⟩] 43 (0, 0))) := heap_alloc_new _ _
 clear hb
 go_enter Tryz.func14, Tryz.ntmps14
 go_wp2_with fail
 refine (C.out _).mono ?_
 rintro e w1 ⟨rfl, rfl⟩
 have g0 := cell_of_row _ _ 0 _ _ _ HN.out
 have g1 := cell_of_row _ _ 1 _ _ _ HN.out
 have f0 := frozen_of_row _ _ 0 _ _ HN.out
 have f1 := frozen_of_row _ _ 1 _ _ HN.out
 generalize w.alloc (.cells #[.int .i64 0, .string ⟨#[]⟩] 43) = W at *
 clear C
 go_wp2
 exact bodyPost_ret (v := .tuple #[.agg #[.int .i64 0, .string ⟨#[]⟩], .bool false]) (results_cell_tmp10 rfl _ _ _ _ _ _ _ _ rfl rfl (two_set10 HN.out _ _) Tryz.underlying43 rfl (by kernel_rfl)) rfl ⟨rfl, (L1.out.setCell (Nat.le_refl _) _).setCell (Nat.le_refl _) _⟩
theorem pspot_nil (i : Int) (w : World) : Calls Tryz.prog 18 #[.pointer none, .int .i64 i] w fun e w' => e = .returned (.int .i64 0) ∧ w = w' := by
 have C := Lib.hid (fun W => phas_nil (w := W) i)
 go_enter Tryz.func18, Tryz.ntmps18
 go_wp2_with fail
 refine (C.out _).mono ?_
 rintro e w1 ⟨rfl, rfl⟩
 go_wp2
 go_ret
 exact ⟨rfl, rfl⟩
theorem pparts_nil (w : World) : Calls Tryz.prog 16 #[.pointer none] w fun e w' => e = .returned (.slice none 0 0) ∧ w = w' := by
 go_enter Tryz.func16, Tryz.ntmps16
 go_wp2
 go_ret
 exact ⟨rfl, rfl⟩
theorem pfind_nil (f : Nat → UInt8) (w : World) : Calls Tryz.prog 19 #[.pointer none, .agg (arr 32 (bv f))] w fun e w' => e = .returned (.int .i64 (-1)) ∧ Below w.heap.size w w' := by
 have L1 : Hid (∀ o, Below w.heap.size w (w.alloc o)) := fun o => (Below.refl _ _).alloc (Nat.le_refl _) _
 go_enter Tryz.func19, Tryz.ntmps19
 go_wp2
 go_ret
 exact ⟨rfl, L1.out _⟩
theorem pid_nil (i : Int) (w : World) : Calls Tryz.prog 17 #[.pointer none, .int .i64 i] w fun e w' => e = .returned (.agg (arr 32 (bv fun _ => 0))) ∧ Below w.heap.size w w' := by
 have hb : Below w.heap.size w (w.alloc (.cells (arr 32 (bv fun _ => 0)) 37)) := (Below.refl _ _).alloc (Nat.le_refl _) _
 have C := Lib.hid (fun W => phas_nil (w := W) i)
 have L1 := Lib.hid hb
 have BZ : Hid (Blk (w.alloc (.cells (arr 32 (bv fun _ => 0)) 37)) w.heap.size 37 32 (bv fun _ => 0)) := Blk.newAt _ (heap_alloc_new _ _) rfl
 clear hb
 go_enter Tryz.func17, Tryz.ntmps17
 go_upto_region 1 with fail
 change Code.wp _ _ _ _ (w.alloc (.cells (arr 32 (bv fun _ => 0)) 37))
 generalize w.alloc (.cells (arr 32 (bv fun _ => 0)) 37) = w1 at L1 BZ ⊢
 go_wp2_with fail
 refine (C.out _).mono ?_
 rintro e w2 ⟨rfl, rfl⟩
 go_upto_region 2 with fail
 refine wp_region_lit ?_
 refine wpList_valG (by kernel_rfl) (ex_build0 rfl (bd_zid _)) ?_
 try simp only [Act.put, tA, tZ, tS]
 refine wpList_unitG (by kernel_rfl) (ex_store 37 (.tmp 4) (.tmp 9) rfl w.heap.size 0 32 (bv fun _ => 0) rfl rfl (BZ.out.there 0 32 (by omega)) sz30 (fun _ _ => rfl)) ?_
 try simp only [Act.put, tA, tZ, tS]
 refine wpList_nil ?_
 have B7 := BZ.out.over (bv fun _ => 0)
 have KZ := keep_setCells (b := w.heap.size) (arr 32 (bv fun _ => 0)).toList 0 w1
 have L7 : Hid (Below w.heap.size w (w1.setCells w.heap.size 0 (arr 32 (bv fun _ => 0)).toList)) := ((Keep.of_below L1.out (fun b hb _ => hb) : Keep (fun b => b < w.heap.size) w w1).trans (KZ.mono fun b hb _ => by omega)).below (Nat.le_refl _)
 clear KZ
 generalize w1.setCells w.heap.size 0 (arr 32 (bv fun _ => 0)).toList = w7 at B7 L7 ⊢
 go_wp2
 exact bodyPost_ret (v := .agg (arr 32 (bv fun _ => 0))) (results_blk rfl _ _ w.heap.size 37 32 _ B7 _ rfl ty30 rfl sz30) rfl ⟨rfl, L7.out⟩
/- where the law stands behind the opening: the id's block, the document's pack, the object that no pack has -/
structure OS0 (w0 : World) (z M y : Nat) (f : Nat → UInt8) (c0 c1 c2 c3 : Value) (W : World) : Prop where
 b0 : Below w0.heap.size w0 W
 bf : Blk W z 37 32 (bv f)
 bm : W.heap[M]? = some (.cells #[c0, c1, c2, c3] 32 (0, 0))
 bo : W.heap[y]? = some (.cells #[.int .i64 0, .string ⟨#[]⟩] 43 (0, 0))
theorem OS0.step {w0 : World} {z M y : Nat} {f : Nat → UInt8} {c0 c1 c2 c3 : Value} {W W' : World} (h : OS0 w0 z M y f c0 c1 c2 c3 W) (hb : Below W.heap.size W W') : OS0 w0 z M y f c0 c1 c2 c3 W' :=
 ⟨h.b0.trans (hb.mono h.b0.size), h.bf.below hb h.bf.lt, by rw [hb.block _ (lt_of_block h.bm)]; exact h.bm, by rw [hb.block _ (lt_of_block h.bo)]; exact h.bo⟩
/- with an opened pack and the document's rows -/
structure OS1 (w0 : World) (z M y g : Nat) (f : Nat → UInt8) (l : List Pt) (S : List Nat) (os : List (Int × List UInt8)) (vl vs vo vd : Value) (W : World) : Prop where
 o : OS0 w0 z M y f vl vs vo vd W
 pk : PackAt W g l S os
 rl : RowP W vl l
 rs : RowN W vs S
 ro : RowO W vo os
 rd : RowD W vd (os.map oid)
theorem OS1.step {w0 : World} {z M y g : Nat} {f : Nat → UInt8} {l : List Pt} {S : List Nat} {os : List (Int × List UInt8)} {vl vs vo vd : Value} {W W' : World} (h : OS1 w0 z M y g f l S os vl vs vo vd W) (hb : Below W.heap.size W W') : OS1 w0 z M y g f l S os vl vs vo vd W' :=
 ⟨h.o.step hb, h.pk.below hb, RowG.below h.rl hb, RowG.below h.rs hb, RowG.below h.ro hb, RowG.below h.rd hb⟩
theorem OS1.all {w0 : World} {z M y g : Nat} {f : Nat → UInt8} {l : List Pt} {S : List Nat} {os : List (Int × List UInt8)} {vl vs vo vd : Value} {W : World} (h : OS1 w0 z M y g f l S os vl vs vo vd W) :
  W.cell? ⟨M, 0, none⟩ = some vl ∧ W.cell? ⟨M, 1, none⟩ = some vs ∧ W.cell? ⟨M, 2, none⟩ = some vo ∧ W.cell? ⟨M, 3, none⟩ = some vd ∧ OS1 w0 z M y g f l S os vl vs vo vd W :=
 ⟨cell_of_row _ _ 0 _ _ _ h.o.bm, cell_of_row _ _ 1 _ _ _ h.o.bm, cell_of_row _ _ 2 _ _ _ h.o.bm, cell_of_row _ _ 3 _ _ _ h.o.bm, h⟩
theorem idHid {w : World} (f : Nat → UInt8) : Hid (Blk (w.alloc (.cells (arr 32 (bv f)) 37)) w.heap.size 37 32 (bv f)) := Blk.newAt _ (heap_alloc_new _ _) rfl
set_option maxHeartbeats 8000000 in
theorem packopens_any (b : List UInt8) (f : Nat → UInt8) (m : Int) (w : World) (hb0 : b.length ≤ 9223372036854775807) (hT : Tie w) (hC : TieC w) (hm : -9223372036854775808 ≤ m ∧ m ≤ 9223372036854775807) :
  Calls Tryz.prog 4 #[.string (bs b), .agg (arr 32 (bv f)), .int .i64 m] w fun e w' => e = .returned (.bool true) ∧ Below w.heap.size w w' := by
 have CA : Hid (∀ W, Tie W → TieC W → _) := Lib.hid (fun W h k => palive_any W h k)
 have TI := Lib.hid hT
 have TC := Lib.hid hC
 have hA : Below w.heap.size w (w.alloc (.cells (arr 32 (bv f)) 37)) := (Below.refl _ _).alloc (Nat.le_refl _) _
 have L0 := Lib.hid hA
 have BF : Hid (Blk (w.alloc (.cells (arr 32 (bv f)) 37)) w.heap.size 37 32 (bv f)) := idHid f
 have hz := bs_size b
 by_cases h8 : 8000 < b.length
 ·have t8 : (8000 : Int) < ((bs b).size : Int) := by omega
  generalize bs b = bb at *
  clear hA hT hC hb0 h8 hz BF hm
  go_enter Tryz.func4, Tryz.ntmps4
  go_upto_region 1 with fail
  change Code.wp _ _ _ _ (w.alloc (.cells (arr 32 (bv f)) 37))
  generalize w.alloc (.cells (arr 32 (bv f)) 37) = w1 at L0 ⊢
  go_wp2_with fail
  refine (CA.out _ (TI.out.below L0.out) (TC.out.below L0.out)).mono ?_
  rintro e w2 ⟨rfl, B2⟩
  have L2 := Lib.hid (L0.out.trans (B2.mono L0.out.size))
  clear B2
  go_wp2_with fail
  refine (CA.out _ (TI.out.below L2.out) (TC.out.below L2.out)).mono ?_
  rintro e w3 ⟨rfl, B3⟩
  have L3 := Lib.hid (L2.out.trans (B3.mono L2.out.size))
  clear B3
  go_wp2
  go_ret
  exact ⟨rfl, L3.out⟩
 ·have CO : Hid (∀ W, Tie W → TieC W → _) := Lib.hid (fun W h1 h2 => popen_any b W (by omega) h1 h2)
  have CQ : Hid (∀ W, _) := Lib.hid (fun W => qpopen_any b W (by omega))
  have t8 : ((bs b).size : Int) ≤ 8000 := by omega
  have hno : ∀ W, (binOp .neq 43 (.agg #[.int .i64 0, .string ⟨#[]⟩]) (.agg #[.int .i64 0, .string ⟨#[]⟩])).run Tryz.prog W = .ok (.bool false) W := fun W => by
   have := neqObj 0 0 [] [] W
   rw [decide_eq_true ⟨rfl, rfl⟩] at this
   exact this
  have hnd : ∀ W, (binOp .neq 37 (.agg (arr 32 (bv fun _ => 0))) (.agg (arr 32 (bv fun _ => 0)))).run Tryz.prog W = .ok (.bool false) W := fun W => by
   have := neqId (fun _ => 0) (fun _ => 0) W
   rw [decide_eq_true (same32_refl _)] at this
   exact this
  have HNO := Lib.hid hno
  have HND := Lib.hid hnd
  have CB := Lib.hid (fun W => pobject_nil m W)
  have CL := Lib.hid (fun W => plen_nil W)
  have CPt := Lib.hid (fun W => pparts_nil W)
  have CI := Lib.hid (fun W => pid_nil m W)
  have CSp := Lib.hid (fun W => pspot_nil m W)
  have CF := Lib.hid (fun W => pfind_nil f W)
  cases hR : opR b with
  | none =>
   rw [hR] at CO CQ
   generalize bs b = bb at *
   clear hA hT hC hb0 h8 hz hm hno hnd hR
   go_enter Tryz.func4, Tryz.ntmps4
   go_upto_region 1 with fail
   change Code.wp _ _ _ _ (w.alloc (.cells (arr 32 (bv f)) 37))
   generalize w.alloc (.cells (arr 32 (bv f)) 37) = w1 at L0 BF ⊢
   go_wp2_with fail
   refine (CA.out _ (TI.out.below L0.out) (TC.out.below L0.out)).mono ?_
   rintro e w2 ⟨rfl, B2⟩
   have L2 := Lib.hid (L0.out.trans (B2.mono L0.out.size))
   have BF2 := Lib.hid (BF.out.below B2 BF.out.lt)
   clear B2
   go_wp2_with fail
   refine (CO.out _ (TI.out.below L2.out) (TC.out.below L2.out)).mono ?_
   rintro e w3 ⟨B3, ⟨l, S, os, g, h, -⟩ | ⟨-, rfl⟩⟩
   ·cases h
   ·have L3 := Lib.hid (L2.out.trans (B3.mono L2.out.size))
    have BF3 := Lib.hid (BF2.out.below B3 BF2.out.lt)
    clear B3 CO
    go_wp2_with fail
    refine (CQ.out _).mono ?_
    rintro e w4 ⟨B4, ⟨l, S, os, h, -⟩ | ⟨-, al, nl, cl, as_, ns, cs, ao, no, co, ad, nd, cd, rfl⟩⟩
    ·cases h
    ·have hA4 : Below w4.heap.size w4 (w4.alloc (.cells #[.slice al nl cl, .slice as_ ns cs, .slice ao no co, .slice ad nd cd] 32)) := (Below.refl _ _).alloc (Nat.le_refl _) _
     have L4 := Lib.hid ((L3.out.trans (B4.mono L3.out.size)).trans (hA4.mono (L3.out.trans (B4.mono L3.out.size)).size))
     have BF4 := Lib.hid ((BF3.out.below B4 BF3.out.lt).below hA4 (BF3.out.below B4 BF3.out.lt).lt)
     clear B4 CQ hA4
     go_wp2_with fail
     refine (CB.out _).mono ?_
     rintro e w5 ⟨rfl, B5⟩
     have hA5 : Below w5.heap.size w5 (w5.alloc (.cells #[.int .i64 0, .string ⟨#[]⟩] 43)) := (Below.refl _ _).alloc (Nat.le_refl _) _
     have L5 := Lib.hid ((L4.out.trans (B5.mono L4.out.size)).trans (hA5.mono (L4.out.trans (B5.mono L4.out.size)).size))
     have BF5 := Lib.hid ((BF4.out.below B5 BF4.out.lt).below hA5 (BF4.out.below B5 BF4.out.lt).lt)
     have BO5 : Hid ((w5.alloc (.cells #[.int .i64 0, .string ⟨#[]⟩] 43)).heap[w5.heap.size]? = some (.cells #[.int .i64 0, .string ⟨#[]⟩] 43 (0, 0))) := heap_alloc_new _ _
     clear B5 CB hA5 L4 BF4 L3 BF3 L2 BF2
     go_upto_region 9 with fail
     change Code.wp _ _ _ _ (w5.alloc (.cells #[.int .i64 0, .string ⟨#[]⟩] 43))
     generalize w5.alloc (.cells #[.int .i64 0, .string ⟨#[]⟩] 43) = w6 at L5 BF5 BO5 ⊢
     refine wp_region_lit ?_
     refine wpList_valS (v := ?_) (by kernel_rfl) ?_ ?_
     rotate_left 1
     ·(go_simp; try with_reducible rfl)
     try simp only [Act.put, tA, tZ, tS]
     refine wpList_callG (by kernel_rfl) fun K hK => ?_
     go_simp
     refine (CL.out _).mono ?_
     rintro e w7 ⟨rfl, rfl⟩
     refine hK _ _ ?_
     clear hK K
     try simp only [Act.put, tA, tZ, tS]
     iterate 3
      refine wpList_valS (v := ?_) (by kernel_rfl) ?_ ?_
      rotate_left 1
      ·(go_simp; try with_reducible rfl)
      try simp only [Act.put, tA, tZ, tS]
     refine wpList_callG (by kernel_rfl) fun K hK => ?_
     go_simp
     refine (CPt.out _).mono ?_
     rintro e w7 ⟨rfl, rfl⟩
     refine hK _ _ ?_
     clear hK K
     try simp only [Act.put, tA, tZ, tS]
     iterate 6
      refine wpList_valS (v := ?_) (by kernel_rfl) ?_ ?_
      rotate_left 1
      ·(go_simp; try with_reducible rfl)
      try simp only [Act.put, tA, tZ, tS]
     refine wpList_callG (by kernel_rfl) fun K hK => ?_
     go_simp
     refine (CI.out _).mono ?_
     rintro e w7 ⟨rfl, B7⟩
     refine hK _ _ ?_
     clear hK K
     try simp only [Act.put, tA, tZ, tS]
     have L7 := Lib.hid (L5.out.trans (B7.mono L5.out.size))
     have BF7 := Lib.hid (BF5.out.below B7 BF5.out.lt)
     have BO7 : Hid (w7.heap[w5.heap.size]? = some (.cells #[.int .i64 0, .string ⟨#[]⟩] 43 (0, 0))) := by show _ = _; rw [B7.block _ (lt_of_block BO5.out)]; exact BO5.out
     clear B7 L5 BF5 BO5
     refine wpList_valG (by kernel_rfl) (ex_build0 rfl (bd_zid _)) ?_
     try simp only [Act.put, tA, tZ, tS]
     have hnd := HND.out
     iterate 5
      refine wpList_valS (v := ?_) (by kernel_rfl) ?_ ?_
      rotate_left 1
      ·(go_simp; try with_reducible rfl)
      try simp only [Act.put, tA, tZ, tS]
     clear hnd
     refine wpList_callG (by kernel_rfl) fun K hK => ?_
     go_simp
     refine (CSp.out _).mono ?_
     rintro e w8 ⟨rfl, rfl⟩
     refine hK _ _ ?_
     clear hK K
     try simp only [Act.put, tA, tZ, tS]
     have q0 := cell_of_row _ _ 0 _ _ _ BO7.out
     have q1 := cell_of_row _ _ 1 _ _ _ BO7.out
     have hno := HNO.out
     iterate 12
      refine wpList_valS (v := ?_) (by kernel_rfl) ?_ ?_
      rotate_left 1
      ·(go_simp; try with_reducible rfl)
      try simp only [Act.put, tA, tZ, tS]
     clear hno q0 q1
     refine wpList_valG (by kernel_rfl) (ex_load 37 (.tmp 4) rfl w.heap.size 0 32 (bv f) rfl ty30 rfl sz30 BF7.out.at0) ?_
     try simp only [Act.put, tA, tZ, tS]
     refine wpList_callG (by kernel_rfl) fun K hK => ?_
     go_simp
     refine (CF.out _).mono ?_
     rintro e w9 ⟨rfl, B9⟩
     refine hK _ _ ?_
     clear hK K
     try simp only [Act.put, tA, tZ, tS]
     have L9 := Lib.hid (L7.out.trans (B9.mono L7.out.size))
     clear B9 L7 BF7 BO7
     iterate 2
      refine wpList_valS (v := ?_) (by kernel_rfl) ?_ ?_
      rotate_left 1
      ·(go_simp; try with_reducible rfl)
      try simp only [Act.put, tA, tZ, tS]
     refine wpList_nil ?_
     go_wp2_with fail
     refine (CA.out _ (TI.out.below L9.out) (TC.out.below L9.out)).mono ?_
     rintro e w10 ⟨rfl, B10⟩
     have L10 := Lib.hid (L9.out.trans (B10.mono L9.out.size))
     clear B10
     go_wp2
     go_ret
     exact ⟨rfl, L10.out⟩
  | some r =>
   obtain ⟨l, S, os⟩ := r
   obtain ⟨-, e2, -, e4, e5, e6⟩ := opR_back hR
   have hds := (pack_ok e2).2.1
   have CO1 : Hid (∀ W, Tie W → TieC W → Calls Tryz.prog 12 #[.string (bs b)] W fun e w' => Below W.heap.size W w' ∧ ∃ g, e = .returned (.tuple #[.pointer (some ⟨g, 0, none⟩), .int .i64 0]) ∧ PackAt w' g l S os) := fun W h1 h2 => (CO.out W h1 h2).mono fun e w' h => ⟨h.1, h.2.elim (fun ⟨_, _, _, g, h3, h4, h5, _⟩ => by
    rw [hR] at h3
    simp only [Option.some.injEq, Prod.mk.injEq] at h3
    obtain ⟨rfl, rfl, rfl⟩ := h3
    exact ⟨g, h4, h5⟩) (fun h => by rw [hR] at h; cases h.1)⟩
   have CQ1 : Hid (∀ W, Calls Tryz.prog 13 #[.string (bs b)] W fun e w' => Below W.heap.size W w' ∧ ∃ al nl cl as_ ns cs ao no co ad nd cd, e = .returned (.tuple #[.agg #[.slice al nl cl, .slice as_ ns cs, .slice ao no co, .slice ad nd cd], .bool true]) ∧ RowP w' (.slice al nl cl) l ∧ RowN w' (.slice as_ ns cs) S ∧ RowO w' (.slice ao no co) os ∧ RowD w' (.slice ad nd cd) (os.map oid)) := fun W => (CQ.out W).mono fun e w' h => ⟨h.1, h.2.elim (fun ⟨l', S', os', h3, vl, vs, vo, vd, h4, r1, r2, r3, r4⟩ => by
    rw [hR] at h3
    simp only [Option.some.injEq, Prod.mk.injEq] at h3
    obtain ⟨rfl, rfl, rfl⟩ := h3
    obtain ⟨al, cl, rfl⟩ := RowG.len r1
    obtain ⟨as_, cs, rfl⟩ := RowG.len r2
    obtain ⟨ao, co, rfl⟩ := RowG.len r3
    obtain ⟨ad, cd, rfl⟩ := RowG.len r4
    exact ⟨_, _, _, _, _, _, _, _, _, _, _, _, h4, r1, r2, r3, r4⟩) (fun h => by rw [hR] at h; cases h.1)⟩
   have CSm : Hid (∀ W g vl vs vo vd, PackAt W g l S os → RowP W vl l → RowN W vs S → RowO W vo os → RowD W vd (os.map oid) → _) := Lib.hid (fun W g vl vs vo vd h r1 r2 r3 r4 => psame_any (w := W) (g := g) h r1 r2 r3 r4 e5 e6 hds e4)
   have CF1 : Hid (∀ W g, PackAt W g l S os → _) := Lib.hid (fun W g h => pfind_at (w := W) (g := g) f h)
   have CF2 : Hid (∀ W v, RowD W v (os.map oid) → _) := Lib.hid (fun W v h => qfind_any (w := W) (v := v) f h (by rw [List.length_map]; omega))
   generalize fnd f (os.map oid) = fz at CF1 CF2
   generalize bs b = bb at *
   clear hA hT hC hb0 h8 hz hm hno hnd hR e2 e4 e5 e6 hds CO CQ
   go_enter Tryz.func4, Tryz.ntmps4
   go_upto_region 1 with fail
   change Code.wp _ _ _ _ (w.alloc (.cells (arr 32 (bv f)) 37))
   generalize w.alloc (.cells (arr 32 (bv f)) 37) = w1 at L0 BF ⊢
   go_wp2_with fail
   refine (CA.out _ (TI.out.below L0.out) (TC.out.below L0.out)).mono ?_
   rintro e w2 ⟨rfl, B2⟩
   have L2 := Lib.hid (L0.out.trans (B2.mono L0.out.size))
   have BF2 := Lib.hid (BF.out.below B2 BF.out.lt)
   clear B2
   go_wp2_with fail
   refine (CO1.out _ (TI.out.below L2.out) (TC.out.below L2.out)).mono ?_
   rintro e w3 ⟨B3, g, rfl, P3⟩
   have L3 := Lib.hid (L2.out.trans (B3.mono L2.out.size))
   have BF3 := Lib.hid (BF2.out.below B3 BF2.out.lt)
   have HP3 := Lib.hid P3
   clear B3 CO1 P3
   go_wp2_with fail
   refine (CQ1.out _).mono ?_
   rintro e w4 ⟨B4, al, nl, cl, as_, ns, cs, ao, no, co, ad, nd, cd, rfl, r1, r2, r3, r4⟩
   have hA4 : Below w4.heap.size w4 (w4.alloc (.cells #[.slice al nl cl, .slice as_ ns cs, .slice ao no co, .slice ad nd cd] 32)) := (Below.refl _ _).alloc (Nat.le_refl _) _
   have L4 := Lib.hid ((L3.out.trans (B4.mono L3.out.size)).trans (hA4.mono (L3.out.trans (B4.mono L3.out.size)).size))
   have BF4 := Lib.hid ((BF3.out.below B4 BF3.out.lt).below hA4 (BF3.out.below B4 BF3.out.lt).lt)
   have HP4 := Lib.hid ((HP3.out.below B4).below hA4)
   have R1 := Lib.hid (RowG.below r1 hA4)
   have R2 := Lib.hid (RowG.below r2 hA4)
   have R3 := Lib.hid (RowG.below r3 hA4)
   have R4 := Lib.hid (RowG.below r4 hA4)
   have BM4 : Hid ((w4.alloc (.cells #[.slice al nl cl, .slice as_ ns cs, .slice ao no co, .slice ad nd cd] 32)).heap[w4.heap.size]? = some (.cells #[.slice al nl cl, .slice as_ ns cs, .slice ao no co, .slice ad nd cd] 32 (0, 0))) := heap_alloc_new _ _
   clear B4 CQ1 hA4 r1 r2 r3 r4
   go_wp2_with fail
   refine (CB.out _).mono ?_
   rintro e w5 ⟨rfl, B5⟩
   have hA5 : Below w5.heap.size w5 (w5.alloc (.cells #[.int .i64 0, .string ⟨#[]⟩] 43)) := (Below.refl _ _).alloc (Nat.le_refl _) _
   have BB := B5.trans (hA5.mono B5.size)
   have O5 : Hid (OS1 w w.heap.size w4.heap.size w5.heap.size g f l S os (.slice al nl cl) (.slice as_ ns cs) (.slice ao no co) (.slice ad nd cd) (w5.alloc (.cells #[.int .i64 0, .string ⟨#[]⟩] 43))) :=
    ⟨⟨L4.out.trans (BB.mono L4.out.size), BF4.out.below BB BF4.out.lt, by rw [BB.block _ (lt_of_block BM4.out)]; exact BM4.out, heap_alloc_new _ _⟩, HP4.out.below BB, RowG.below R1.out BB, RowG.below R2.out BB, RowG.below R3.out BB, RowG.below R4.out BB⟩
   clear B5 CB hA5 BB L4 BF4 L3 BF3 L2 BF2 HP3 HP4 R1 R2 R3 R4 BM4
   go_upto_region 9 with fail
   change Code.wp _ _ _ _ (w5.alloc (.cells #[.int .i64 0, .string ⟨#[]⟩] 43))
   generalize w5.alloc (.cells #[.int .i64 0, .string ⟨#[]⟩] 43) = w6 at O5 ⊢
   refine wp_region_lit ?_
   refine wpList_valS (v := ?_) (by kernel_rfl) ?_ ?_
   rotate_left 1
   ·(go_simp; try with_reducible rfl)
   try simp only [Act.put, tA, tZ, tS]
   refine wpList_callG (by kernel_rfl) fun K hK => ?_
   go_simp
   refine (CL.out _).mono ?_
   rintro e w7 ⟨rfl, rfl⟩
   refine hK _ _ ?_
   clear hK K
   try simp only [Act.put, tA, tZ, tS]
   iterate 3
    refine wpList_valS (v := ?_) (by kernel_rfl) ?_ ?_
    rotate_left 1
    ·(go_simp; try with_reducible rfl)
    try simp only [Act.put, tA, tZ, tS]
   refine wpList_callG (by kernel_rfl) fun K hK => ?_
   go_simp
   refine (CPt.out _).mono ?_
   rintro e w7 ⟨rfl, rfl⟩
   refine hK _ _ ?_
   clear hK K
   try simp only [Act.put, tA, tZ, tS]
   iterate 6
    refine wpList_valS (v := ?_) (by kernel_rfl) ?_ ?_
    rotate_left 1
    ·(go_simp; try with_reducible rfl)
    try simp only [Act.put, tA, tZ, tS]
   refine wpList_callG (by kernel_rfl) fun K hK => ?_
   go_simp
   refine (CI.out _).mono ?_
   rintro e w7 ⟨rfl, B7⟩
   refine hK _ _ ?_
   clear hK K
   try simp only [Act.put, tA, tZ, tS]
   have O7 := Lib.hid (O5.out.step B7)
   clear B7 O5
   refine wpList_valG (by kernel_rfl) (ex_build0 rfl (bd_zid _)) ?_
   try simp only [Act.put, tA, tZ, tS]
   have hnd := HND.out
   iterate 5
    refine wpList_valS (v := ?_) (by kernel_rfl) ?_ ?_
    rotate_left 1
    ·(go_simp; try with_reducible rfl)
    try simp only [Act.put, tA, tZ, tS]
   clear hnd
   refine wpList_callG (by kernel_rfl) fun K hK => ?_
   go_simp
   refine (CSp.out _).mono ?_
   rintro e w8 ⟨rfl, rfl⟩
   refine hK _ _ ?_
   clear hK K
   try simp only [Act.put, tA, tZ, tS]
   have q0 := cell_of_row _ _ 0 _ _ _ O7.out.o.bo
   have q1 := cell_of_row _ _ 1 _ _ _ O7.out.o.bo
   have hno := HNO.out
   iterate 12
    refine wpList_valS (v := ?_) (by kernel_rfl) ?_ ?_
    rotate_left 1
    ·(go_simp; try with_reducible rfl)
    try simp only [Act.put, tA, tZ, tS]
   clear hno q0 q1
   refine wpList_valG (by kernel_rfl) (ex_load 37 (.tmp 4) rfl w.heap.size 0 32 (bv f) rfl ty30 rfl sz30 O7.out.o.bf.at0) ?_
   try simp only [Act.put, tA, tZ, tS]
   refine wpList_callG (by kernel_rfl) fun K hK => ?_
   go_simp
   refine (CF.out _).mono ?_
   rintro e w9 ⟨rfl, B9⟩
   refine hK _ _ ?_
   clear hK K
   try simp only [Act.put, tA, tZ, tS]
   have O9 := Lib.hid (O7.out.step B9)
   clear B9 O7
   iterate 2
    refine wpList_valS (v := ?_) (by kernel_rfl) ?_ ?_
    rotate_left 1
    ·(go_simp; try with_reducible rfl)
    try simp only [Act.put, tA, tZ, tS]
   refine wpList_nil ?_
   go_upto_region 13 with fail
   have SD := (O9.out.step (Below.refl _ _).drew).all
   refine wp_region_noPanic ?_
   refine wp_region_held_drew (S := (fun W => W.cell? ⟨w4.heap.size, 0, none⟩ = some (.slice al nl cl) ∧ W.cell? ⟨w4.heap.size, 1, none⟩ = some (.slice as_ ns cs) ∧ W.cell? ⟨w4.heap.size, 2, none⟩ = some (.slice ao no co) ∧ W.cell? ⟨w4.heap.size, 3, none⟩ = some (.slice ad nd cd) ∧ OS1 w w.heap.size w4.heap.size w5.heap.size g f l S os (.slice al nl cl) (.slice as_ ns cs) (.slice ao no co) (.slice ad nd cd) W)) (by kernel_rfl) SD (fun hHeld => ?_)
   refine wpAnyH_ready (rs := [0]) (by kernel_rfl) (by simp) ?_
   refine AllReadyH.cons (o := ⟨some 83, .call { callee := .value (Operand.func 7), args := #[], argTypes := #[] }, 4, "law.go:74", #[], none⟩) rfl (fun K hK => ?_) AllReadyH.nil
   go_simp
   refine (CA.out _ (TI.out.below SD.2.2.2.2.o.b0) (TC.out.below SD.2.2.2.2.o.b0)).mono ?_
   rintro e w10 ⟨rfl, B10⟩
   have Sa0 := (SD.2.2.2.2.step B10).all
   refine hK.out _ _ Sa0 (fun hHeld0 => ?_)
   clear hK K
   try simp only [Act.put, tA, tZ, tS]
   refine wpAnyH_take (i := 1) (oi := ⟨some 84, .move (.tmp 83), 4, "law.go:74", #[⟨0, .data⟩, ⟨0, .chain⟩], none⟩) (v := ?_) rfl (by kernel_rfl) (by kernel_rfl) (by kernel_rfl) (fun _ _ _ h => h) (Or.inl ⟨by kernel_rfl, ?_⟩) (by assumption) ?_
   rotate_left 1
   ·(intro wS hSw; (try dsimp only at hSw); go_simp; try with_reducible rfl)
   try simp only [Act.put, tA, tZ, tS]
   refine wpAnyH_take (i := 2) (oi := ⟨some 85, .move (.tmp 8), 25, "law.go:74", #[⟨1, .guard⟩], some (1, true)⟩) (v := ?_) rfl (by kernel_rfl) (by kernel_rfl) (by kernel_rfl) (fun _ _ _ h => h) (Or.inl ⟨by kernel_rfl, ?_⟩) (by assumption) ?_
   rotate_left 1
   ·(intro wS hSw; (try dsimp only at hSw); go_simp; try with_reducible rfl)
   try simp only [Act.put, tA, tZ, tS]
   refine wpAnyH_take (i := 3) (oi := ⟨some 86, .binOp BinOp.eql 25 (.tmp 85) (Operand.const (Value.int IntKind.i64 0)) 25, 4, "law.go:74", #[⟨2, .data⟩, ⟨1, .guard⟩], some (1, true)⟩) (v := ?_) rfl (by kernel_rfl) (by kernel_rfl) (by kernel_rfl) (fun _ _ _ h => h) (Or.inl ⟨by kernel_rfl, ?_⟩) (by assumption) ?_
   rotate_left 1
   ·(intro wS hSw; (try dsimp only at hSw); go_simp; try with_reducible rfl)
   try simp only [Act.put, tA, tZ, tS]
   refine wpAnyH_take (i := 4) (oi := ⟨some 87, .pick (.tmp 84) (.tmp 86) (Operand.const (Value.bool false)), 4, "law.go:74", #[⟨1, .data⟩, ⟨3, .data⟩], none⟩) (v := ?_) rfl (by kernel_rfl) (by kernel_rfl) (by kernel_rfl) (fun _ _ _ h => h) (Or.inl ⟨by kernel_rfl, ?_⟩) (by assumption) ?_
   rotate_left 1
   ·(intro wS hSw; (try dsimp only at hSw); go_simp; try with_reducible rfl)
   try simp only [Act.put, tA, tZ, tS]
   refine wpAnyH_take (i := 5) (oi := ⟨some 88, .move (.tmp 87), 4, "law.go:74", #[⟨4, .data⟩, ⟨1, .chain⟩], none⟩) (v := ?_) rfl (by kernel_rfl) (by kernel_rfl) (by kernel_rfl) (fun _ _ _ h => h) (Or.inl ⟨by kernel_rfl, ?_⟩) (by assumption) ?_
   rotate_left 1
   ·(intro wS hSw; (try dsimp only at hSw); go_simp; try with_reducible rfl)
   try simp only [Act.put, tA, tZ, tS]
   refine wpAnyH_take (i := 6) (oi := ⟨some 89, .move (.tmp 7), 38, "law.go:74", #[⟨5, .guard⟩], some (5, true)⟩) (v := ?_) rfl (by kernel_rfl) (by kernel_rfl) (by kernel_rfl) (fun _ _ _ h => h) (Or.inl ⟨by kernel_rfl, ?_⟩) (by assumption) ?_
   rotate_left 1
   ·(intro wS hSw; (try dsimp only at hSw); go_simp; try with_reducible rfl)
   try simp only [Act.put, tA, tZ, tS]
   refine wpAnyH_take (i := 7) (oi := ⟨some 90, .binOp BinOp.neq 38 (.tmp 89) (Operand.const (Value.pointer none)) 38, 4, "law.go:74", #[⟨6, .data⟩, ⟨5, .guard⟩], some (5, true)⟩) (v := ?_) rfl (by kernel_rfl) (by kernel_rfl) (by kernel_rfl) (fun _ _ _ h => h) (Or.inl ⟨by kernel_rfl, ?_⟩) (by assumption) ?_
   rotate_left 1
   ·(intro wS hSw; (try dsimp only at hSw); go_simp; try with_reducible rfl)
   try simp only [Act.put, tA, tZ, tS]
   refine wpAnyH_take (i := 8) (oi := ⟨some 91, .pick (.tmp 88) (.tmp 90) (Operand.const (Value.bool false)), 4, "law.go:74", #[⟨5, .data⟩, ⟨7, .data⟩], none⟩) (v := ?_) rfl (by kernel_rfl) (by kernel_rfl) (by kernel_rfl) (fun _ _ _ h => h) (Or.inl ⟨by kernel_rfl, ?_⟩) (by assumption) ?_
   rotate_left 1
   ·(intro wS hSw; (try dsimp only at hSw); go_simp; try with_reducible rfl)
   try simp only [Act.put, tA, tZ, tS]
   refine wpAnyH_take (i := 9) (oi := ⟨some 92, .move (.tmp 91), 4, "law.go:74", #[⟨8, .data⟩, ⟨5, .chain⟩], none⟩) (v := ?_) rfl (by kernel_rfl) (by kernel_rfl) (by kernel_rfl) (fun _ _ _ h => h) (Or.inl ⟨by kernel_rfl, ?_⟩) (by assumption) ?_
   rotate_left 1
   ·(intro wS hSw; (try dsimp only at hSw); go_simp; try with_reducible rfl)
   try simp only [Act.put, tA, tZ, tS]
   refine wpAnyH_take (i := 10) (oi := ⟨some 93, .move (.tmp 7), 38, "law.go:74", #[⟨9, .guard⟩], some (9, true)⟩) (v := ?_) rfl (by kernel_rfl) (by kernel_rfl) (by kernel_rfl) (fun _ _ _ h => h) (Or.inl ⟨by kernel_rfl, ?_⟩) (by assumption) ?_
   rotate_left 1
   ·(intro wS hSw; (try dsimp only at hSw); go_simp; try with_reducible rfl)
   try simp only [Act.put, tA, tZ, tS]
   refine wpAnyH_take (i := 11) (oi := ⟨some 94, .load 32 (.tmp 9), 32, "law.go:74", #[⟨9, .guard⟩], some (9, true)⟩) (v := ?_) rfl (by kernel_rfl) (by kernel_rfl) (by kernel_rfl) (fun _ _ _ h => h) (Or.inl ⟨by kernel_rfl, ?_⟩) (by assumption) ?_
   rotate_left 1
   ·(intro wS hSw; (try dsimp only at hSw); go_simp; try with_reducible rfl)
   try simp only [Act.put, tA, tZ, tS]
   refine wpAnyH_ready (rs := [12]) (by kernel_rfl) (by simp) ?_
   refine AllReadyH.cons (o := ⟨some 95, .call { callee := .value (Operand.func 20), args := #[.tmp 93, .tmp 94], argTypes := #[38, 32] }, 4, "law.go:74", #[⟨10, .data⟩, ⟨11, .data⟩, ⟨9, .chain⟩, ⟨9, .guard⟩], some (9, true)⟩) rfl (fun K hK => ?_) AllReadyH.nil
   go_simp
   refine (CSm.out _ _ _ _ _ _ Sa0.2.2.2.2.pk Sa0.2.2.2.2.rl Sa0.2.2.2.2.rs Sa0.2.2.2.2.ro Sa0.2.2.2.2.rd).mono ?_
   rintro e w11 ⟨rfl, B11⟩
   have Sa12 := (Sa0.2.2.2.2.step B11).all
   refine hK.out _ _ Sa12 (fun hHeld12 => ?_)
   clear hK K
   try simp only [Act.put, tA, tZ, tS]
   refine wpAnyH_take (i := 13) (oi := ⟨some 96, .pick (.tmp 92) (.tmp 95) (Operand.const (Value.bool false)), 4, "law.go:74", #[⟨9, .data⟩, ⟨12, .data⟩], none⟩) (v := ?_) rfl (by kernel_rfl) (by kernel_rfl) (by kernel_rfl) (fun _ _ _ h => h) (Or.inl ⟨by kernel_rfl, ?_⟩) (by assumption) ?_
   rotate_left 1
   ·(intro wS hSw; (try dsimp only at hSw); go_simp; try with_reducible rfl)
   try simp only [Act.put, tA, tZ, tS]
   refine wpAnyH_take (i := 14) (oi := ⟨some 97, .move (.tmp 96), 4, "law.go:74", #[⟨13, .data⟩, ⟨12, .chain⟩], none⟩) (v := ?_) rfl (by kernel_rfl) (by kernel_rfl) (by kernel_rfl) (fun _ _ _ h => h) (Or.inl ⟨by kernel_rfl, ?_⟩) (by assumption) ?_
   rotate_left 1
   ·(intro wS hSw; (try dsimp only at hSw); go_simp; try with_reducible rfl)
   try simp only [Act.put, tA, tZ, tS]
   refine wpAnyH_take (i := 15) (oi := ⟨some 98, .move (.tmp 7), 38, "law.go:74", #[⟨14, .guard⟩], some (14, true)⟩) (v := ?_) rfl (by kernel_rfl) (by kernel_rfl) (by kernel_rfl) (fun _ _ _ h => h) (Or.inl ⟨by kernel_rfl, ?_⟩) (by assumption) ?_
   rotate_left 1
   ·(intro wS hSw; (try dsimp only at hSw); go_simp; try with_reducible rfl)
   try simp only [Act.put, tA, tZ, tS]
   refine wpAnyH_take (i := 18) (oi := ⟨some 101, .fieldAddr 32 (.tmp 9) 3, 0, "law.go:74", #[⟨14, .guard⟩], some (14, true)⟩) (v := ?_) rfl (by kernel_rfl) (by kernel_rfl) (by kernel_rfl) (fun _ _ _ h => h) (Or.inl ⟨by kernel_rfl, ?_⟩) (by assumption) ?_
   rotate_left 1
   ·(intro wS hSw; (try dsimp only at hSw); go_simp; try with_reducible rfl)
   try simp only [Act.put, tA, tZ, tS]
   refine wpAnyH_take (i := 19) (oi := ⟨some 102, .load 30 (.tmp 101), 30, "law.go:74", #[⟨18, .data⟩, ⟨14, .guard⟩], some (14, true)⟩) (v := ?_) rfl (by kernel_rfl) (by kernel_rfl) (by kernel_rfl) (fun _ _ _ h => h) (Or.inl ⟨by kernel_rfl, ?_⟩) (by assumption) ?_
   rotate_left 1
   ·(intro wS hSw; (try dsimp only at hSw); go_simp; try with_reducible rfl)
   try simp only [Act.put, tA, tZ, tS]
   refine wpAnyH_take (i := 16) (oi := ⟨some 99, .load 37 (.tmp 4), 37, "law.go:74", #[⟨14, .guard⟩], some (14, true)⟩) rfl (by kernel_rfl) (by kernel_rfl) (by kernel_rfl) (fun _ _ _ h => h) (Or.inl ⟨by kernel_rfl, fun wS hSw => ex_load 37 (.tmp 4) rfl w.heap.size 0 32 (bv f) rfl ty30 rfl sz30 hSw.2.2.2.2.o.bf.at0⟩) (by assumption) ?_
   try simp only [Act.put, tA, tZ, tS]
   refine wpAnyH_take (i := 20) (oi := ⟨some 103, .load 37 (.tmp 4), 37, "law.go:74", #[⟨14, .guard⟩], some (14, true)⟩) rfl (by kernel_rfl) (by kernel_rfl) (by kernel_rfl) (fun _ _ _ h => h) (Or.inl ⟨by kernel_rfl, fun wS hSw => ex_load 37 (.tmp 4) rfl w.heap.size 0 32 (bv f) rfl ty30 rfl sz30 hSw.2.2.2.2.o.bf.at0⟩) (by assumption) ?_
   try simp only [Act.put, tA, tZ, tS]
   refine wpAnyH_ready (rs := [17]) (by kernel_rfl) (by simp) ?_
   refine AllReadyH.cons (o := ⟨some 100, .call { callee := .value (Operand.func 19), args := #[.tmp 98, .tmp 99], argTypes := #[38, 37] }, 3, "law.go:74", #[⟨15, .data⟩, ⟨16, .data⟩, ⟨14, .chain⟩, ⟨14, .guard⟩], some (14, true)⟩) rfl (fun K hK => ?_) AllReadyH.nil
   go_simp
   refine (CF1.out _ _ Sa12.2.2.2.2.pk).mono ?_
   rintro e w12 ⟨rfl, B12⟩
   have Sa17 := (Sa12.2.2.2.2.step B12).all
   refine hK.out _ _ Sa17 (fun hHeld17 => ?_)
   clear hK K
   try simp only [Act.put, tA, tZ, tS]
   refine wpAnyH_ready (rs := [21]) (by kernel_rfl) (by simp) ?_
   refine AllReadyH.cons (o := ⟨some 104, .call { callee := .value (Operand.func 21), args := #[.tmp 102, .tmp 103], argTypes := #[30, 37] }, 3, "law.go:74", #[⟨19, .data⟩, ⟨20, .data⟩, ⟨17, .chain⟩, ⟨14, .guard⟩], some (14, true)⟩) rfl (fun K hK => ?_) AllReadyH.nil
   go_simp
   refine (CF2.out _ _ Sa17.2.2.2.2.rd).mono ?_
   rintro e w13 ⟨rfl, B13⟩
   have Sa21 := (Sa17.2.2.2.2.step B13).all
   refine hK.out _ _ Sa21 (fun hHeld21 => ?_)
   clear hK K
   try simp only [Act.put, tA, tZ, tS]
   refine wpAnyH_take (i := 22) (oi := ⟨some 105, .binOp BinOp.eql 3 (.tmp 100) (.tmp 104) 3, 4, "law.go:74", #[⟨17, .data⟩, ⟨21, .data⟩, ⟨14, .guard⟩], some (14, true)⟩) (v := ?_) rfl (by kernel_rfl) (by kernel_rfl) (by kernel_rfl) (fun _ _ _ h => h) (Or.inl ⟨by kernel_rfl, ?_⟩) (by assumption) ?_
   rotate_left 1
   ·(intro wS hSw; (try dsimp only at hSw); go_simp; try with_reducible rfl)
   try simp only [Act.put, tA, tZ, tS]
   refine wpAnyH_take (i := 23) (oi := ⟨some 106, .pick (.tmp 97) (.tmp 105) (Operand.const (Value.bool false)), 4, "law.go:74", #[⟨14, .data⟩, ⟨22, .data⟩], none⟩) (v := ?_) rfl (by kernel_rfl) (by kernel_rfl) (by kernel_rfl) (fun _ _ _ h => h) (Or.inl ⟨by kernel_rfl, ?_⟩) (by assumption) ?_
   rotate_left 1
   ·(intro wS hSw; (try dsimp only at hSw); go_simp; try with_reducible rfl)
   try simp only [Act.put, tA, tZ, tS]
   refine wpAnyH_take (i := 24) (oi := ⟨some 6, .assign (.tmp 106), 4, "law.go:74", #[⟨23, .data⟩, ⟨21, .chain⟩, ⟨0, .phase⟩, ⟨1, .phase⟩, ⟨2, .phase⟩, ⟨3, .phase⟩, ⟨4, .phase⟩, ⟨5, .phase⟩, ⟨6, .phase⟩, ⟨7, .phase⟩, ⟨8, .phase⟩, ⟨9, .phase⟩, ⟨10, .phase⟩, ⟨11, .phase⟩, ⟨12, .phase⟩, ⟨13, .phase⟩, ⟨14, .phase⟩, ⟨15, .phase⟩, ⟨16, .phase⟩, ⟨17, .phase⟩, ⟨18, .phase⟩, ⟨19, .phase⟩, ⟨20, .phase⟩, ⟨21, .phase⟩, ⟨22, .phase⟩, ⟨23, .phase⟩], none⟩) (v := ?_) rfl (by kernel_rfl) (by kernel_rfl) (by kernel_rfl) (fun _ _ _ h => h) (Or.inl ⟨by kernel_rfl, ?_⟩) (by assumption) ?_
   rotate_left 1
   ·(intro wS hSw; (try dsimp only at hSw); go_simp; try with_reducible rfl)
   try simp only [Act.put, tA, tZ, tS]
   refine wpAnyH_done (by kernel_rfl) ?_ _
   refine NoPanic.normal ?_
   have HL := Lib.hid Sa21.2.2.2.2.o.b0
   clear SD Sa0 Sa12 Sa17 Sa21 B10 B11 B12 B13 O9 hHeld hHeld0 hHeld12 hHeld17 hHeld21
   go_wp2
   go_ret
   exact ⟨by simp, HL.out⟩
end Go.Proofs.YtnmjcpoobabjgaaGreatDoor
