import Derived.Test.YtnmjcpoobabjgaaGreatDoorQ1m
import Derived.Test.YtnmjcpoobabjgaaGreatDoorGCm
set_option linter.unusedVariables false
set_option linter.unusedSimpArgs false
/- The document's answer: the commit of a body. -/
namespace Go.Proofs.YtnmjcpoobabjgaaGreatDoor
open Go.RowKit Classical
def zc : Nat → Value := cv (fun _ => 0) (.slice none 0 0) []
theorem bd_zcom (w : World) : (Instr.build 134 #[]).run Tryz.prog w = .ok (.agg (arr 34 zc)) w := by kernel_rfl
theorem zc_one (i : Nat) : (zc i).oneCell' = true := cv_one (fun _ => 0) (.slice none 0 0) rfl [] i
theorem owns_one {w : World} {B e m n : Nat} {v : Value} {xs : List Value} (h : w.ownsRow B e m v n xs) : v.oneCell' = true := by
 rcases h.2 with ⟨rfl, _⟩ | ⟨g, cap, cur, rfl, _⟩ <;> rfl
/- the three blocks of the call's own: what it answers (N), the reader (N + 1), the commit (N + 2) -/
structure QC (w0 : World) (l : List UInt8) (t : Nat → UInt8) (ps : Nat → Nat → UInt8) (k : Nat) (v : Value) (s : List UInt8) (p : Nat) (e : Int) (w : World) : Prop where
 keep : Keep (fun b => b < w0.heap.size) w0 w
 res : Blk w w0.heap.size 134 34 zc
 rd : Rq w (w0.heap.size + 1) l p e
 com : Blk w (w0.heap.size + 1 + 1) 134 34 (cv t v s)
 row : w.ownsRow (w0.heap.size + 3) 37 32 v k (arr (k * 32) (pc ps)).toList
 size : w0.heap.size + 3 ≤ w.heap.size
theorem QC.below {w0 w w' : World} {l : List UInt8} {t : Nat → UInt8} {ps : Nat → Nat → UInt8} {k : Nat} {v : Value} {s : List UInt8} {p : Nat} {e : Int} (h : QC w0 l t ps k v s p e w) (hb : Below w.heap.size w w') : QC w0 l t ps k v s p e w' :=
 ⟨h.keep.trans (Keep.all hb), h.res.below hb h.res.lt, h.rd.keep (K := fun _ => True) (Keep.all hb) trivial, h.com.below hb h.com.lt, owns_all h.row hb, Nat.le_trans h.size hb.size⟩
theorem QC.grown {w0 w : World} {l : List UInt8} {t : Nat → UInt8} {ps : Nat → Nat → UInt8} {k : Nat} {v : Value} {s : List UInt8} {p : Nat} {e : Int} (h : QC w0 l t ps k v s p e w) : Below w0.heap.size w0 w := h.keep.below (Nat.le_refl _)
theorem QC.call {w0 w w' : World} {l : List UInt8} {t : Nat → UInt8} {ps : Nat → Nat → UInt8} {k : Nat} {v : Value} {s : List UInt8} {p p' : Nat} {e e' : Int} (h : QC w0 l t ps k v s p e w) (g : Rq w' (w0.heap.size + 1) l p' e') (kk : Keep (fun k => k ≠ w0.heap.size + 1) w w') : QC w0 l t ps k v s p' e' w' :=
 ⟨h.keep.trans (kk.mono fun b hb _ => by omega), kk.blk (by omega) h.res, g, kk.blk (by omega) h.com, owns_keep h.row kk fun g hg => by have := (own_lt h.row hg).1; omega, Nat.le_trans h.size kk.size⟩
theorem QC.drew {w0 w : World} {l : List UInt8} {t : Nat → UInt8} {ps : Nat → Nat → UInt8} {k : Nat} {v : Value} {s : List UInt8} {p : Nat} {e : Int} (h : QC w0 l t ps k v s p e w) : QC w0 l t ps k v s p e w.drew := h.below (Below.refl _ _).drew
theorem cv_tree (t t' : Nat → UInt8) (pv : Value) (s : List UInt8) (j : Nat) : (if 0 ≤ j ∧ j < 0 + (arr 32 (bv t')).toList.length then (arr 32 (bv t')).toList.getD (j - 0) undef else cv t pv s j) = cv t' pv s j := by
 rw [Array.length_toList, arr_size]
 by_cases c : j < 32
 ·rw [if_pos ⟨by omega, by omega⟩, List.getD_eq_getElem?_getD, Array.getElem?_toList, arr_get _ _ _ (by omega)]
  unfold cv
  rw [if_pos c]
  rfl
 ·rw [if_neg (by omega)]
  unfold cv
  rw [if_neg c, if_neg c]
theorem cv_par (t : Nat → UInt8) (pv pv' : Value) (s : List UInt8) (j : Nat) : (if j = 32 then pv' else cv t pv s j) = cv t pv' s j := by
 unfold cv
 by_cases c : j = 32
 ·subst c; rfl
 ·rw [if_neg c]
  by_cases d : j < 32
  ·rw [if_pos d, if_pos d]
  ·rw [if_neg d, if_neg d, if_neg c, if_neg c]
theorem cv_text (t : Nat → UInt8) (pv : Value) (s s' : List UInt8) (j : Nat) (hj : j < 34) : (if j = 33 then .string (bs s') else cv t pv s j) = cv t pv s' j := by
 unfold cv
 by_cases c : j = 33
 ·subst c; rfl
 ·rw [if_neg c]
  by_cases d : j < 32
  ·rw [if_pos d, if_pos d]
  ·rw [if_neg d, if_neg d, if_pos (by omega), if_pos (by omega)]
/- the tree, the text, a parent more -/
theorem QC.tree {w0 w : World} {l : List UInt8} {t t' : Nat → UInt8} {ps : Nat → Nat → UInt8} {k : Nat} {v : Value} {s : List UInt8} {p : Nat} {e : Int} (h : QC w0 l t ps k v s p e w) : QC w0 l t' ps k v s p e (w.setCells (w0.heap.size + 1 + 1) 0 (arr 32 (bv t')).toList) := by
 have KZ := keep_setCells (b := w0.heap.size + 1 + 1) (arr 32 (bv t')).toList 0 w
 exact ⟨h.keep.trans (KZ.mono fun b hb _ => by omega), KZ.blk (by omega) h.res, h.rd.keep KZ (by omega), (Blk.setCells (arr 32 (bv t')).toList 0 w _ h.com).congr fun j _ => cv_tree _ _ _ _ _, owns_keep h.row KZ fun g hg => by have := (own_lt h.row hg).1; omega, Nat.le_trans h.size KZ.size⟩
theorem QC.text {w0 w : World} {l : List UInt8} {t : Nat → UInt8} {ps : Nat → Nat → UInt8} {k : Nat} {v : Value} {s s' : List UInt8} {p : Nat} {e : Int} (h : QC w0 l t ps k v s p e w) : QC w0 l t ps k v s' p e (w.setCell ⟨w0.heap.size + 1 + 1, 33, none⟩ (.string (bs s'))) := by
 have KZ : Keep (fun b => b ≠ w0.heap.size + 1 + 1) w (w.setCell ⟨w0.heap.size + 1 + 1, 33, none⟩ (.string (bs s'))) := (Keep.refl _ w).setCell (fun hh => hh rfl) _
 exact ⟨h.keep.trans (KZ.mono fun b hb _ => by omega), KZ.blk (by omega) h.res, h.rd.keep KZ (by omega), (h.com.set 33 _).congr fun j hj => cv_text _ _ _ _ _ hj, owns_keep h.row KZ fun g hg => by have := (own_lt h.row hg).1; omega, Nat.le_trans h.size KZ.size⟩
theorem QC.next {w0 w5 w6 : World} {l : List UInt8} {t : Nat → UInt8} {ps : Nat → Nat → UInt8} {k g cap : Nat} {v : Value} {s : List UInt8} {p : Nat} {e : Int} {x : Nat → UInt8} (h : QC w0 l t ps k v s p e w5)
  (ho : w6.ownsRow (w0.heap.size + 3) 37 32 (.slice (some ⟨g, 0, none⟩) (k + 1) cap) (k + 1) (arr ((k + 1) * 32) (pc (upI ps k x))).toList) (k6 : Keep (fun k => v.ownBlock ≠ some k) w5 w6) :
  w6.cell? ⟨w0.heap.size + 1 + 1, 32, none⟩ = some v ∧ w6.frozen? ⟨w0.heap.size + 1 + 1, 32, none⟩ = false ∧ QC w0 l t (upI ps k x) (k + 1) (.slice (some ⟨g, 0, none⟩) (k + 1) cap) s p e (w6.setCell ⟨w0.heap.size + 1 + 1, 32, none⟩ (.slice (some ⟨g, 0, none⟩) (k + 1) cap)) := by
 have own : ∀ b, b < w0.heap.size + 3 → v.ownBlock ≠ some b := fun b hb h2 => by have := (own_lt h.row h2).1; omega
 have hg := (own_lt ho (g := g) rfl).1
 have B6 : Blk w6 (w0.heap.size + 1 + 1) 134 34 (cv t v s) := k6.blk (own _ (by omega)) h.com
 have KZ : Keep (fun b => b ≠ w0.heap.size + 1 + 1) w6 (w6.setCell ⟨w0.heap.size + 1 + 1, 32, none⟩ (.slice (some ⟨g, 0, none⟩) (k + 1) cap)) := (Keep.refl _ w6).setCell (fun hh => hh rfl) _
 refine ⟨B6.cell 32 (by omega), B6.frozen 32, ⟨?_, ?_, ?_, ?_, ?_, ?_⟩⟩
 ·exact (h.keep.trans (k6.mono fun b hb _ => own b (by omega))).trans (KZ.mono fun b hb _ => by omega)
 ·exact KZ.blk (by omega) (k6.blk (own _ (by omega)) h.res)
 ·exact (h.rd.keep k6 (own _ (by omega))).keep KZ (by omega)
 ·exact (B6.set 32 _).congr fun j _ => cv_par _ _ _ _ _
 ·exact owns_keep ho KZ fun g' hg' => by simp [Value.ownBlock] at hg'; omega
 ·exact Nat.le_trans (Nat.le_trans h.size k6.size) KZ.size
theorem QC.zero {w0 w : World} {l : List UInt8} {ps : Nat → Nat → UInt8} {k : Nat} {v : Value} {p : Nat} {e : Int} (h : QC w0 l (fun _ => 0) ps k v [] p e w) (hv : v = .slice none 0 0) : QC w0 l (fun _ => 0) ps k v [] p e (w.setRow (w0.heap.size + 1 + 1) (arr 34 zc)) := by
 have KZ : Keep (fun b => b ≠ w0.heap.size + 1 + 1) w (w.setRow (w0.heap.size + 1 + 1) (arr 34 zc)) := (Keep.refl _ w).setRow (fun hh => hh rfl) _
 subst hv
 exact ⟨h.keep.trans (KZ.mono fun b hb _ => by omega), KZ.blk (by omega) h.res, h.rd.keep KZ (by omega), h.com.setRow zc, owns_keep h.row KZ fun g hg => by have := (own_lt h.row hg).1; omega, Nat.le_trans h.size KZ.size⟩
set_option maxHeartbeats 4000000 in
set_option maxRecDepth 100000 in
theorem qcommit_any (l : List UInt8) (w : World) (hl : l.length ≤ 1000000) :
  Calls Tryz.prog 79 #[.string (bs l)] w fun e w' => ∃ c v, e = .returned (.tuple #[.agg (arr 34 (cv c.tree v c.text)), .bool (decide (isCom l))]) ∧ Row w' v 32 (pc c.par) c.n ∧ (isCom l → IsCom l c) ∧ Fresh w.heap.size v ∧ Below w.heap.size w w' := by
 obtain ⟨s0, p0, e0, h0⟩ : ∃ s0 p0 e0, rRaw 32 l 0 0 = (s0, p0, e0) := ⟨_, _, _, rfl⟩
 obtain ⟨n, p1, e1, h1⟩ : ∃ n p1 e1, rNum 4 l p0 e0 = (n, p1, e1) := ⟨_, _, _, rfl⟩
 have l0 : p0 ≤ l.length := by have := rRaw_le 32 l 0 0 (Nat.zero_le _); rw [h0] at this; exact this
 have C0 : Hid (∀ W r, Rq W r l 0 0 → Calls Tryz.prog 95 #[.pointer (some ⟨r, 0, none⟩)] W fun u w' => u = .returned (.agg (arr 32 (bv (idOf s0)))) ∧ Rq w' r l p0 e0 ∧ Keep (fun k => k ≠ r) W w') := fun W r h => by
  have := qid_any h (Nat.zero_le _) (by omega)
  rw [h0] at this; exact this
 have C1 : Hid (∀ W r, Rq W r l p0 e0 → Calls Tryz.prog 66 #[.pointer (some ⟨r, 0, none⟩), .int .i64 4] W fun u w' => u = .returned (.int .i64 n) ∧ Rq w' r l p1 e1 ∧ Keep (fun k => k ≠ r) W w') := fun W r h => by
  have := qnum_any 4 h l0 (by omega)
  rw [h1] at this; exact this
 have I0 := Lib.hid (CI.start h0 h1)
 have HL : Hid (l.length ≤ 1000000) := hl
 obtain ⟨sb, hsb⟩ : ∃ sb, sb = bs l := ⟨_, rfl⟩
 have SB := Lib.hid hsb
 have T0 : Hid (QC w l (fun _ => 0) (fun _ _ => 0) 0 (.slice none 0 0) [] 0 0 (((w.alloc (.cells (arr 34 zc) 134)).alloc (.cells #[.string sb, .int .i64 0, .int .i64 0] 108)).alloc (.cells (arr 34 zc) 134))) := by
  have z1 : (w.alloc (.cells (arr 34 zc) 134)).heap.size = w.heap.size + 1 := by simp
  have z2 : ((w.alloc (.cells (arr 34 zc) 134)).alloc (.cells #[.string sb, .int .i64 0, .int .i64 0] 108)).heap.size = w.heap.size + 1 + 1 := by simp
  have b2 : Blk (((w.alloc (.cells (arr 34 zc) 134)).alloc (.cells #[.string sb, .int .i64 0, .int .i64 0] 108)).alloc (.cells (arr 34 zc) 134)) (w.heap.size + 1 + 1) 134 34 zc := by
   rw [← z2]; exact Blk.newAt _ (heap_alloc_new _ _) rfl
  refine ⟨(((Keep.refl _ w).alloc _).alloc _).alloc _, ((Blk.newAt _ (heap_alloc_new w _) rfl : Blk (w.alloc (.cells (arr 34 zc) 134)) w.heap.size 134 34 zc).alloc _).alloc _, ?_, b2, by rw [Nat.zero_mul]; exact World.ownsRow_nil _ _ _ _, by simp⟩
  have r1 : Rq ((w.alloc (.cells (arr 34 zc) 134)).alloc (.cells #[.string sb, .int .i64 0, .int .i64 0] 108)) (w.heap.size + 1) l 0 0 := by
   rw [← z1, hsb]; exact heap_alloc_new _ _
  exact r1.keep ((Keep.refl (fun _ => True) _).alloc _) trivial
 rw [← hsb]
 clear h0 h1 l0 hsb hl
 go_enter Tryz.func79, Tryz.ntmps79
 have T1 := Lib.hid (T0.out.zero rfl)
 go_upto_region 3 with (first | (refine wpList_val rfl _ _ (ex_build (t := 134) (parts := #[]) rfl rfl (bd_zcom _)) ?_) | (refine wpList_store_blk rfl 134 (.tmp 5) (.tmp 11) rfl (w.heap.size + 1 + 1) 34 zc zc rfl rfl 134 T0.out.com szCommit (fun i _ => zc_one i) ?_))
 change Code.wp Tryz.prog _ _ _ ((((w.alloc (.cells (arr 34 zc) 134)).alloc (.cells #[.string sb, .int .i64 0, .int .i64 0] 108)).alloc (.cells (arr 34 zc) 134)).setRow (w.heap.size + 1 + 1) (arr 34 zc))
 generalize (((w.alloc (.cells (arr 34 zc) 134)).alloc (.cells #[.string sb, .int .i64 0, .int .i64 0] 108)).alloc (.cells (arr 34 zc) 134)).setRow (w.heap.size + 1 + 1) (arr 34 zc) = w1 at T1 ⊢
 clear T0
 refine wp_region_lit ?_
 refine wpList_valS (v := ?_) (by kernel_rfl) ?_ ?_
 rotate_left 1
 ·(go_simp; try with_reducible rfl)
 try simp only [Act.put, tA, tZ, tS]
 refine wpList_callG (by kernel_rfl) fun K hK => ?_
 go_simp
 refine (C0.out _ _ T1.out.rd).mono ?_
 rintro e w2 ⟨rfl, R2, K2⟩
 refine hK _ _ ?_
 clear hK K
 try simp only [Act.put, tA, tZ, tS]
 have T2 := Lib.hid (T1.out.call R2 K2)
 clear R2 K2 T1 C0
 refine wpList_valG (by kernel_rfl) (ex_field fC0 (.tmp 5) rfl (w.heap.size + 1 + 1) 0 rfl) ?_
 try simp only [Act.put, tA, tZ, tS]
 refine wpList_unitG (by kernel_rfl) (ex_store 37 (.tmp 14) (.tmp 13) rfl (w.heap.size + 1 + 1) 0 32 (bv (idOf s0)) rfl rfl (T2.out.com.there 0 32 (by omega)) sz30 (fun _ _ => rfl)) ?_
 try simp only [Act.put, tA, tZ, tS]
 have T3 := Lib.hid (T2.out.tree (t' := idOf s0))
 clear T2
 generalize w2.setCells (w.heap.size + 1 + 1) 0 (arr 32 (bv (idOf s0))).toList = w3 at T3 ⊢
 refine wpList_nil ?_
 go_wp2_with fail
 refine (C1.out _ _ T3.out.rd).mono ?_
 rintro e w4 ⟨rfl, R4, K4⟩
 have T4 := Lib.hid (T3.out.call R4 K4)
 clear R4 K4 T3 C1
 have N4 : Hid (n ≤ 4) := I0.out.four
 go_wp2
 go_loopw [7] (fun i wr => ∃ k ps v p e, k ≤ n ∧ i = .int .i64 (k : Nat) ∧ Hid (QC w l (idOf s0) ps k v [] p e wr) ∧ Hid (CI l (idOf s0) n ps k p e)) (fun i _ => n - (intOf i).toNat)
 case atStart => exact ⟨0, _, _, _, _, Nat.zero_le _, rfl, T4, I0⟩
 case round =>
  obtain ⟨k, ps, v, p, e, hk, rfl, hS, hI⟩ := hrel
  clear T4 I0
  have hl := HL.out
  by_cases hlt : k < n
  ·obtain ⟨s3, p3, e3, h3⟩ : ∃ s3 p3 e3, rRaw 32 l p e = (s3, p3, e3) := ⟨_, _, _, rfl⟩
   have I2 := Lib.hid (hI.out.step hlt h3)
   have C5 : Hid (∀ W r, Rq W r l p e → Calls Tryz.prog 95 #[.pointer (some ⟨r, 0, none⟩)] W fun u w' => u = .returned (.agg (arr 32 (bv (idOf s3)))) ∧ Rq w' r l p3 e3 ∧ Keep (fun k => k ≠ r) W w') := fun W r h => by
    have := qid_any h hI.out.le (by omega)
    rw [h3] at this; exact this
   have zk : (0 : Int) ≤ (k : Int) := by omega
   have yk : (k : Int) < (n : Int) := by omega
   have HLT := Lib.hid hlt
   have SD := Lib.hid hS.out.drew
   have c0 : wr.drew.cell? ⟨w.heap.size + 1 + 1, 32, none⟩ = some v := SD.out.com.cell 32 (by omega)
   have FEW : Hid (k + 1 ≤ 100000) := by show k + 1 ≤ 100000; have := N4.out; omega
   clear h3 hlt hS hI hl
   go_upto_region 8 with fail
   refine wp_region_noPanic ?_
   refine wp_region_held_drew (S := (fun _ => True)) (by kernel_rfl) trivial (fun hHeld => ?_)
   refine wpAnyH_take (i := 0) (oi := ⟨some 22, .fieldAddr 134 (.tmp 5) 1, 0, "ref.go:93", #[], none⟩) (v := ?_) rfl (by kernel_rfl) (by kernel_rfl) (by kernel_rfl) (fun _ _ _ h => h) (Or.inl ⟨by kernel_rfl, ?_⟩) (by assumption) ?_
   rotate_left 1
   ·(intro wS hSw; (try dsimp only at hSw); go_simp; try with_reducible rfl)
   try simp only [Act.put, tA, tZ, tS]
   refine wpAnyH_take (i := 2) (oi := ⟨some 24, .move (.tmp 4), 106, "ref.go:93", #[], none⟩) (v := ?_) rfl (by kernel_rfl) (by kernel_rfl) (by kernel_rfl) (fun _ _ _ h => h) (Or.inl ⟨by kernel_rfl, ?_⟩) (by assumption) ?_
   rotate_left 1
   ·(intro wS hSw; (try dsimp only at hSw); go_simp; try with_reducible rfl)
   try simp only [Act.put, tA, tZ, tS]
   refine wpAnyH_ready (rs := [1, 3]) (by kernel_rfl) (by simp) ?_
   refine AllReadyH.cons (o := ⟨some 23, .load 30 (.tmp 22), 30, "ref.go:93", #[⟨0, .data⟩], none⟩) rfl (fun K hK => ?_) (AllReadyH.cons (o := ⟨some 25, .call { callee := .value (Operand.func 95), args := #[.tmp 24], argTypes := #[106] }, 37, "ref.go:93", #[⟨2, .data⟩], none⟩) rfl (fun K hK => ?_) AllReadyH.nil)
   ·skip
    go_simp
    refine hK.out _ _ (trivial) (fun _ => ?_)
    clear hK K
    try simp only [Act.put, tA, tZ, tS]
    refine wpAnyH_ready (rs := [3]) (by kernel_rfl) (by simp) ?_
    refine AllReadyH.cons (o := ⟨some 25, .call { callee := .value (Operand.func 95), args := #[.tmp 24], argTypes := #[106] }, 37, "ref.go:93", #[⟨2, .data⟩], none⟩) rfl (fun K hK => ?_) AllReadyH.nil
    go_simp
    refine (C5.out wr.drew _ SD.out.rd).mono ?_
    rintro e w5 ⟨rfl, R5, K5⟩
    refine hK.out _ _ (trivial) (fun _ => ?_)
    clear hK K
    try simp only [Act.put, tA, tZ, tS]
    have S5 := Lib.hid (SD.out.call R5 K5)
    clear R5 K5
    refine wpAnyH_ready (rs := [4]) (by kernel_rfl) (by simp) ?_
    refine AllReadyH.cons (o := ⟨some 26, .buildSlice 30 1 #[(0, .tmp 25)], 30, "ref.go:93", #[⟨3, .data⟩], none⟩) rfl (fun K hK => ?_) AllReadyH.nil
    refine step_val rfl _ _ (ex_bslice 30 37 (.tmp 25) rfl 32 (bv (idOf s3)) rfl tIds zId (by decide) (by decide)) ?_
    refine hK.out _ _ (trivial) (fun _ => ?_)
    clear hK K
    try simp only [Act.put, tA, tZ, tS]
    obtain ⟨g, cap, w6, hap, ho6, k6, hat⟩ := app_own tIds iId (arr_size 32 _) (by decide) (by decide) (arr 32 (bv (idOf s3))) (arr_congr fun j hj => (by rw [pc_at _ _ _ hj, upI_same] : bv (idOf s3) j = pc (upI ps k (idOf s3)) (k * 32 + j))) (fun j => rfl) (owns_congr S5.out.row (by rw [pc_up])) S5.out.size FEW.out
    have N := Lib.hid (QC.next S5.out ho6 k6)
    have c6 := N.out.1
    have f6 := N.out.2.1
    clear ho6 k6 hat
    refine wpAnyH_ready (rs := [5]) (by kernel_rfl) (by simp) ?_
    refine AllReadyH.cons (o := ⟨some 27, .call { callee := .builtin .append, args := #[.tmp 23, .tmp 26], argTypes := #[30, 30] }, 30, "ref.go:93", #[⟨1, .data⟩, ⟨4, .data⟩, ⟨3, .chain⟩], none⟩) rfl (fun K hK => ?_) AllReadyH.nil
    refine step_append_run rfl (.tmp 23) (.tmp 26) 30 30 rfl v _ _ w6 rfl rfl hap ?_
    refine hK.out _ _ (trivial) (fun _ => ?_)
    clear hK K
    try simp only [Act.put, tA, tZ, tS]
    clear hap
    refine wpAnyH_take (i := 6) (oi := ⟨some 28, .fieldAddr 134 (.tmp 5) 1, 0, "ref.go:93", #[⟨0, .phase⟩, ⟨1, .phase⟩, ⟨2, .phase⟩, ⟨3, .phase⟩, ⟨4, .phase⟩, ⟨5, .phase⟩], none⟩) (v := ?_) rfl (by kernel_rfl) (by kernel_rfl) (by kernel_rfl) (fun _ _ _ h => h) (Or.inl ⟨by kernel_rfl, ?_⟩) (by assumption) ?_
    rotate_left 1
    ·(intro wS hSw; (try dsimp only at hSw); go_simp; try with_reducible rfl)
    try simp only [Act.put, tA, tZ, tS]
    refine wpAnyH_ready (rs := [7]) (by kernel_rfl) (by simp) ?_
    refine AllReadyH.cons (o := ⟨none, .store 30 (.tmp 28) (.tmp 27), 0, "ref.go:93", #[⟨6, .data⟩, ⟨5, .data⟩, ⟨5, .chain⟩, ⟨0, .phase⟩, ⟨1, .phase⟩, ⟨2, .phase⟩, ⟨3, .phase⟩, ⟨4, .phase⟩, ⟨5, .phase⟩], none⟩) rfl (fun K hK => ?_) AllReadyH.nil
    go_simp
    refine hK.out _ _ (trivial) (fun _ => ?_)
    clear hK K
    try simp only [Act.put, tA, tZ, tS]
    refine wpAnyH_done (by kernel_rfl) ?_ _
    refine NoPanic.normal ?_
    have F := Lib.hid N.out.2.2
    clear N c6 f6
    generalize w6.setCell ⟨w.heap.size + 1 + 1, 32, none⟩ (.slice (some ⟨g, 0, none⟩) (k + 1) cap) = w7 at F ⊢
    have n4 := N4.out
    go_wp2
    go_roundw
    case rel => exact ⟨k + 1, _, _, _, _, HLT.out, by go_num, F, I2⟩
    case measure => simp [intOf]; omega
   ·skip
    go_simp
    refine (C5.out wr.drew _ SD.out.rd).mono ?_
    rintro e w5 ⟨rfl, R5, K5⟩
    refine hK.out _ _ (trivial) (fun _ => ?_)
    clear hK K
    try simp only [Act.put, tA, tZ, tS]
    have S5 := Lib.hid (SD.out.call R5 K5)
    have c5 : w5.cell? ⟨w.heap.size + 1 + 1, 32, none⟩ = some v := S5.out.com.cell 32 (by omega)
    clear R5 K5
    refine wpAnyH_ready (rs := [1, 4]) (by kernel_rfl) (by simp) ?_
    refine AllReadyH.cons (o := ⟨some 23, .load 30 (.tmp 22), 30, "ref.go:93", #[⟨0, .data⟩], none⟩) rfl (fun K hK => ?_) (AllReadyH.cons (o := ⟨some 26, .buildSlice 30 1 #[(0, .tmp 25)], 30, "ref.go:93", #[⟨3, .data⟩], none⟩) rfl (fun K hK => ?_) AllReadyH.nil)
    ·skip
     go_simp
     refine hK.out _ _ (trivial) (fun _ => ?_)
     clear hK K
     try simp only [Act.put, tA, tZ, tS]
     refine wpAnyH_ready (rs := [4]) (by kernel_rfl) (by simp) ?_
     refine AllReadyH.cons (o := ⟨some 26, .buildSlice 30 1 #[(0, .tmp 25)], 30, "ref.go:93", #[⟨3, .data⟩], none⟩) rfl (fun K hK => ?_) AllReadyH.nil
     refine step_val rfl _ _ (ex_bslice 30 37 (.tmp 25) rfl 32 (bv (idOf s3)) rfl tIds zId (by decide) (by decide)) ?_
     refine hK.out _ _ (trivial) (fun _ => ?_)
     clear hK K
     try simp only [Act.put, tA, tZ, tS]
     obtain ⟨g, cap, w6, hap, ho6, k6, hat⟩ := app_own tIds iId (arr_size 32 _) (by decide) (by decide) (arr 32 (bv (idOf s3))) (arr_congr fun j hj => (by rw [pc_at _ _ _ hj, upI_same] : bv (idOf s3) j = pc (upI ps k (idOf s3)) (k * 32 + j))) (fun j => rfl) (owns_congr S5.out.row (by rw [pc_up])) S5.out.size FEW.out
     have N := Lib.hid (QC.next S5.out ho6 k6)
     have c6 := N.out.1
     have f6 := N.out.2.1
     clear ho6 k6 hat
     refine wpAnyH_ready (rs := [5]) (by kernel_rfl) (by simp) ?_
     refine AllReadyH.cons (o := ⟨some 27, .call { callee := .builtin .append, args := #[.tmp 23, .tmp 26], argTypes := #[30, 30] }, 30, "ref.go:93", #[⟨1, .data⟩, ⟨4, .data⟩, ⟨3, .chain⟩], none⟩) rfl (fun K hK => ?_) AllReadyH.nil
     refine step_append_run rfl (.tmp 23) (.tmp 26) 30 30 rfl v _ _ w6 rfl rfl hap ?_
     refine hK.out _ _ (trivial) (fun _ => ?_)
     clear hK K
     try simp only [Act.put, tA, tZ, tS]
     clear hap
     refine wpAnyH_take (i := 6) (oi := ⟨some 28, .fieldAddr 134 (.tmp 5) 1, 0, "ref.go:93", #[⟨0, .phase⟩, ⟨1, .phase⟩, ⟨2, .phase⟩, ⟨3, .phase⟩, ⟨4, .phase⟩, ⟨5, .phase⟩], none⟩) (v := ?_) rfl (by kernel_rfl) (by kernel_rfl) (by kernel_rfl) (fun _ _ _ h => h) (Or.inl ⟨by kernel_rfl, ?_⟩) (by assumption) ?_
     rotate_left 1
     ·(intro wS hSw; (try dsimp only at hSw); go_simp; try with_reducible rfl)
     try simp only [Act.put, tA, tZ, tS]
     refine wpAnyH_ready (rs := [7]) (by kernel_rfl) (by simp) ?_
     refine AllReadyH.cons (o := ⟨none, .store 30 (.tmp 28) (.tmp 27), 0, "ref.go:93", #[⟨6, .data⟩, ⟨5, .data⟩, ⟨5, .chain⟩, ⟨0, .phase⟩, ⟨1, .phase⟩, ⟨2, .phase⟩, ⟨3, .phase⟩, ⟨4, .phase⟩, ⟨5, .phase⟩], none⟩) rfl (fun K hK => ?_) AllReadyH.nil
     go_simp
     refine hK.out _ _ (trivial) (fun _ => ?_)
     clear hK K
     try simp only [Act.put, tA, tZ, tS]
     refine wpAnyH_done (by kernel_rfl) ?_ _
     refine NoPanic.normal ?_
     have F := Lib.hid N.out.2.2
     clear N c6 f6
     generalize w6.setCell ⟨w.heap.size + 1 + 1, 32, none⟩ (.slice (some ⟨g, 0, none⟩) (k + 1) cap) = w7 at F ⊢
     have n4 := N4.out
     go_wp2
     go_roundw
     case rel => exact ⟨k + 1, _, _, _, _, HLT.out, by go_num, F, I2⟩
     case measure => simp [intOf]; omega
    ·skip
     refine step_val rfl _ _ (ex_bslice 30 37 (.tmp 25) rfl 32 (bv (idOf s3)) rfl tIds zId (by decide) (by decide)) ?_
     refine hK.out _ _ (trivial) (fun _ => ?_)
     clear hK K
     try simp only [Act.put, tA, tZ, tS]
     have c5b : (w5.alloc (.cells (arr 32 (bv (idOf s3))) 37)).cell? ⟨w.heap.size + 1 + 1, 32, none⟩ = some v := by rw [((Below.refl w5.heap.size w5).alloc (Nat.le_refl _) _).cell (by have := block_lt_of_cell c5; exact this)]; exact c5
     refine wpAnyH_ready (rs := [1]) (by kernel_rfl) (by simp) ?_
     refine AllReadyH.cons (o := ⟨some 23, .load 30 (.tmp 22), 30, "ref.go:93", #[⟨0, .data⟩], none⟩) rfl (fun K hK => ?_) AllReadyH.nil
     go_simp
     refine hK.out _ _ (trivial) (fun _ => ?_)
     clear hK K
     try simp only [Act.put, tA, tZ, tS]
     obtain ⟨g, cap, w6, hap, ho6, k6, hat⟩ := app_own tIds iId (arr_size 32 _) (by decide) (by decide) (arr 32 (bv (idOf s3))) (arr_congr fun j hj => (by rw [pc_at _ _ _ hj, upI_same] : bv (idOf s3) j = pc (upI ps k (idOf s3)) (k * 32 + j))) (fun j => rfl) (owns_congr S5.out.row (by rw [pc_up])) S5.out.size FEW.out
     have N := Lib.hid (QC.next S5.out ho6 k6)
     have c6 := N.out.1
     have f6 := N.out.2.1
     clear ho6 k6 hat
     refine wpAnyH_ready (rs := [5]) (by kernel_rfl) (by simp) ?_
     refine AllReadyH.cons (o := ⟨some 27, .call { callee := .builtin .append, args := #[.tmp 23, .tmp 26], argTypes := #[30, 30] }, 30, "ref.go:93", #[⟨1, .data⟩, ⟨4, .data⟩, ⟨3, .chain⟩], none⟩) rfl (fun K hK => ?_) AllReadyH.nil
     refine step_append_run rfl (.tmp 23) (.tmp 26) 30 30 rfl v _ _ w6 rfl rfl hap ?_
     refine hK.out _ _ (trivial) (fun _ => ?_)
     clear hK K
     try simp only [Act.put, tA, tZ, tS]
     clear hap
     refine wpAnyH_take (i := 6) (oi := ⟨some 28, .fieldAddr 134 (.tmp 5) 1, 0, "ref.go:93", #[⟨0, .phase⟩, ⟨1, .phase⟩, ⟨2, .phase⟩, ⟨3, .phase⟩, ⟨4, .phase⟩, ⟨5, .phase⟩], none⟩) (v := ?_) rfl (by kernel_rfl) (by kernel_rfl) (by kernel_rfl) (fun _ _ _ h => h) (Or.inl ⟨by kernel_rfl, ?_⟩) (by assumption) ?_
     rotate_left 1
     ·(intro wS hSw; (try dsimp only at hSw); go_simp; try with_reducible rfl)
     try simp only [Act.put, tA, tZ, tS]
     refine wpAnyH_ready (rs := [7]) (by kernel_rfl) (by simp) ?_
     refine AllReadyH.cons (o := ⟨none, .store 30 (.tmp 28) (.tmp 27), 0, "ref.go:93", #[⟨6, .data⟩, ⟨5, .data⟩, ⟨5, .chain⟩, ⟨0, .phase⟩, ⟨1, .phase⟩, ⟨2, .phase⟩, ⟨3, .phase⟩, ⟨4, .phase⟩, ⟨5, .phase⟩], none⟩) rfl (fun K hK => ?_) AllReadyH.nil
     go_simp
     refine hK.out _ _ (trivial) (fun _ => ?_)
     clear hK K
     try simp only [Act.put, tA, tZ, tS]
     refine wpAnyH_done (by kernel_rfl) ?_ _
     refine NoPanic.normal ?_
     have F := Lib.hid N.out.2.2
     clear N c6 f6
     generalize w6.setCell ⟨w.heap.size + 1 + 1, 32, none⟩ (.slice (some ⟨g, 0, none⟩) (k + 1) cap) = w7 at F ⊢
     have n4 := N4.out
     go_wp2
     go_roundw
     case rel => exact ⟨k + 1, _, _, _, _, HLT.out, by go_num, F, I2⟩
     case measure => simp [intOf]; omega
  ·have ek : k = n := by omega
   subst ek
   have yk : (k : Int) ≤ (k : Int) := by omega
   obtain ⟨s4, p4, e4, h4⟩ : ∃ s4 p4 e4, rText 64 l p e = (s4, p4, e4) := ⟨_, _, _, rfl⟩
   have C6 : Hid (∀ W r, Rq W r l p e → Calls Tryz.prog 51 #[.pointer (some ⟨r, 0, none⟩), .int .i64 64] W fun u w' => u = .returned (.string (bs s4)) ∧ Rq w' r l p4 e4 ∧ Keep (fun k => k ≠ r) W w') := fun W r h => by
    have := qtext_any 64 h hI.out.le (by omega)
    rw [h4] at this; exact this
   have CE := Lib.hid (hI.out.end h4)
   obtain ⟨q, hq⟩ : ∃ q, q = endOf l.length p4 e4 := ⟨_, rfl⟩
   have HE2 : Hid (∀ W r, Rq W r l p4 e4 → Calls Tryz.prog 52 #[.pointer (some ⟨r, 0, none⟩)] W fun u w' => u = .returned (.int .i64 q) ∧ Below W.heap.size W w') := fun W r h => by rw [hq]; exact qend_any h
   rw [← hq] at CE
   clear h4 hlt hq hI hl
   go_wp2_with fail
   refine (C6.out _ _ hS.out.rd).mono ?_
   rintro e5 w5 ⟨rfl, R5, K5⟩
   have S5 := Lib.hid (hS.out.call R5 K5)
   have c34 : w5.cell? ⟨w.heap.size + 1 + 1, 33, none⟩ = some (.string (bs [])) := S5.out.com.cell 33 (by omega)
   have f34 : w5.frozen? ⟨w.heap.size + 1 + 1, 33, none⟩ = false := S5.out.com.frozen 33
   have T6 := Lib.hid (S5.out.text (s' := s4))
   clear R5 K5 hS C6 S5
   generalize bs [] = sb0 at c34
   go_upto_region 10 with fail
   clear c34 f34
   generalize w5.setCell ⟨w.heap.size + 1 + 1, 33, none⟩ (.string (bs s4)) = w6 at T6 ⊢
   by_cases h0 : q = 0
   ·subst h0
    have CC := Lib.hid (fun (W : World) (h : Row W v 32 (pc ps) k) => qcom_any (idOf s0) ps k s4 v W h (by have := N4.out; omega))
    by_cases ht : isCom l
    ·have hok : comOk ⟨idOf s0, k, ps, s4⟩ := (CE.out.1.2 ht).2
     have IT := Lib.hid (CE.out.2 rfl hok)
     have HT := Lib.hid ht
     have HCB := Lib.hid (fun (W : World) (h : Row W v 32 (pc ps) k) => combody_any (idOf s0) ps k s4 v W h hok.1 hok.2.1)
     rw [← IT.out.2, ← SB.out] at HCB
     rw [decide_eq_true hok] at CC
     clear ht hok CE
     refine wp_region_lit ?_
     refine wpList_valS (v := ?_) (by kernel_rfl) ?_ ?_
     rotate_left 1
     ·(go_simp; try with_reducible rfl)
     try simp only [Act.put, tA, tZ, tS]
     refine wpList_callG (by kernel_rfl) fun K hK => ?_
     go_simp
     refine (HE2.out _ _ T6.out.rd).mono ?_
     rintro e w7 ⟨rfl, hB7⟩
     refine hK _ _ ?_
     clear hK K
     try simp only [Act.put, tA, tZ, tS]
     have T7 := Lib.hid (T6.out.below hB7)
     clear hB7 T6 HE2
     iterate 2
      refine wpList_valS (v := ?_) (by kernel_rfl) ?_ ?_
      rotate_left 1
      ·(go_simp; try with_reducible rfl)
      try simp only [Act.put, tA, tZ, tS]
     refine wpList_valG (by kernel_rfl) (ex_load 134 (.tmp 5) rfl (w.heap.size + 1 + 1) 0 34 (cv (idOf s0) v s4) rfl Tryz.underlying134 rfl szCommit T7.out.com.at0) ?_
     try simp only [Act.put, tA, tZ, tS]
     refine wpList_callG (by kernel_rfl) fun K hK => ?_
     go_simp
     refine (CC.out _ (owns_row T7.out.row)).mono ?_
     rintro e w8 ⟨rfl, hB8⟩
     refine hK _ _ ?_
     clear hK K
     try simp only [Act.put, tA, tZ, tS]
     have T8 := Lib.hid (T7.out.below hB8)
     clear hB8 T7 CC
     iterate 3
      refine wpList_valS (v := ?_) (by kernel_rfl) ?_ ?_
      rotate_left 1
      ·(go_simp; try with_reducible rfl)
      try simp only [Act.put, tA, tZ, tS]
     refine wpList_valG (by kernel_rfl) (ex_load 134 (.tmp 5) rfl (w.heap.size + 1 + 1) 0 34 (cv (idOf s0) v s4) rfl Tryz.underlying134 rfl szCommit T8.out.com.at0) ?_
     try simp only [Act.put, tA, tZ, tS]
     refine wpList_callG (by kernel_rfl) fun K hK => ?_
     go_simp
     refine (HCB.out _ (owns_row T8.out.row)).mono ?_
     rintro e w9 ⟨rfl, hB9⟩
     refine hK _ _ ?_
     clear hK K
     try simp only [Act.put, tA, tZ, tS]
     have T9 := Lib.hid (T8.out.below hB9)
     clear hB9 T8 HCB
     iterate 3
      refine wpList_valS (v := ?_) (by kernel_rfl) ?_ ?_
      rotate_left 1
      ·(go_simp; try with_reducible rfl)
      try simp only [Act.put, tA, tZ, tS]
     refine wpList_nil ?_
     go_upto_region 12 with fail
     refine wp_region_lit ?_
     refine wpList_valG (by kernel_rfl) (ex_load 134 (.tmp 5) rfl (w.heap.size + 1 + 1) 0 34 (cv (idOf s0) v s4) rfl Tryz.underlying134 rfl szCommit T9.out.com.at0) ?_
     try simp only [Act.put, tA, tZ, tS]
     refine wpList_unitG (by kernel_rfl) (ex_store 134 (.tmp 2) (.tmp 47) rfl w.heap.size 0 34 (cv (idOf s0) v s4) rfl rfl (T9.out.res.there 0 34 (by omega)) szCommit (fun i _ => cv_one _ _ (owns_one T9.out.row) _ i)) ?_
     try simp only [Act.put, tA, tZ, tS]
     refine wpList_valS (v := ?_) (by kernel_rfl) ?_ ?_
     rotate_left 1
     ·(go_simp; try with_reducible rfl)
     try simp only [Act.put, tA, tZ, tS]
     refine wpList_nil ?_
     have B9 := T9.out.res.over (cv (idOf s0) v s4)
     have KZ := keep_setCells (b := w.heap.size) (arr 34 (cv (idOf s0) v s4)).toList 0 w9
     have G9 : Hid (Below w.heap.size w (w9.setCells w.heap.size 0 (arr 34 (cv (idOf s0) v s4)).toList)) := (T9.out.keep.trans (KZ.mono fun b hb _ => by omega)).below (Nat.le_refl _)
     have R9 : Hid ((w9.setCells w.heap.size 0 (arr 34 (cv (idOf s0) v s4)).toList).ownsRow (w.heap.size + 3) 37 32 v k (arr (k * 32) (pc ps)).toList) := owns_keep T9.out.row KZ fun g hg => by have := (own_lt T9.out.row hg).1; omega
     clear T9 KZ
     generalize w9.setCells w.heap.size 0 (arr 34 (cv (idOf s0) v s4)).toList = w10 at B9 G9 R9 ⊢
     go_wp2
     exact bodyPost_ret (results_blk2 rfl _ _ w.heap.size 134 34 (cv (idOf s0) v s4) B9 _ rfl Tryz.underlying134 rfl szCommit) rfl ⟨⟨idOf s0, k, ps, s4⟩, v, by rw [decide_eq_true HT.out]; rfl, owns_row R9.out, fun _ => IT.out, fun g o a b h => by have := owns_fresh R9.out g o a b h; omega, G9.out⟩
    ·have hok : ¬ comOk ⟨idOf s0, k, ps, s4⟩ := fun h => ht (CE.out.1.1 ⟨rfl, h⟩)
     have HT := Lib.hid ht
     rw [decide_eq_false hok] at CC
     clear ht hok CE
     refine wp_region_lit ?_
     refine wpList_valS (v := ?_) (by kernel_rfl) ?_ ?_
     rotate_left 1
     ·(go_simp; try with_reducible rfl)
     try simp only [Act.put, tA, tZ, tS]
     refine wpList_callG (by kernel_rfl) fun K hK => ?_
     go_simp
     refine (HE2.out _ _ T6.out.rd).mono ?_
     rintro e w7 ⟨rfl, hB7⟩
     refine hK _ _ ?_
     clear hK K
     try simp only [Act.put, tA, tZ, tS]
     have T7 := Lib.hid (T6.out.below hB7)
     clear hB7 T6 HE2
     iterate 2
      refine wpList_valS (v := ?_) (by kernel_rfl) ?_ ?_
      rotate_left 1
      ·(go_simp; try with_reducible rfl)
      try simp only [Act.put, tA, tZ, tS]
     refine wpList_valG (by kernel_rfl) (ex_load 134 (.tmp 5) rfl (w.heap.size + 1 + 1) 0 34 (cv (idOf s0) v s4) rfl Tryz.underlying134 rfl szCommit T7.out.com.at0) ?_
     try simp only [Act.put, tA, tZ, tS]
     refine wpList_callG (by kernel_rfl) fun K hK => ?_
     go_simp
     refine (CC.out _ (owns_row T7.out.row)).mono ?_
     rintro e w8 ⟨rfl, hB8⟩
     refine hK _ _ ?_
     clear hK K
     try simp only [Act.put, tA, tZ, tS]
     have T8 := Lib.hid (T7.out.below hB8)
     clear hB8 T7 CC
     iterate 3
      refine wpList_valS (v := ?_) (by kernel_rfl) ?_ ?_
      rotate_left 1
      ·(go_simp; try with_reducible rfl)
      try simp only [Act.put, tA, tZ, tS]
     refine wpList_skipG (by kernel_rfl) ?_
     try simp only [Act.put, tA, tZ, tS]
     refine wpList_skipG (by kernel_rfl) ?_
     try simp only [Act.put, tA, tZ, tS]
     refine wpList_skipG (by kernel_rfl) ?_
     try simp only [Act.put, tA, tZ, tS]
     refine wpList_skipG (by kernel_rfl) ?_
     try simp only [Act.put, tA, tZ, tS]
     refine wpList_valS (v := ?_) (by kernel_rfl) ?_ ?_
     rotate_left 1
     ·(go_simp; try with_reducible rfl)
     try simp only [Act.put, tA, tZ, tS]
     refine wpList_nil ?_
     go_upto_region 11 with fail
     refine wp_region_lit ?_
     refine wpList_valG (by kernel_rfl) (ex_build0 rfl (bd_zcom _)) ?_
     try simp only [Act.put, tA, tZ, tS]
     refine wpList_unitG (by kernel_rfl) (ex_store 134 (.tmp 2) (.tmp 46) rfl w.heap.size 0 34 zc rfl rfl (T8.out.res.there 0 34 (by omega)) szCommit (fun i _ => zc_one i)) ?_
     try simp only [Act.put, tA, tZ, tS]
     refine wpList_valS (v := ?_) (by kernel_rfl) ?_ ?_
     rotate_left 1
     ·(go_simp; try with_reducible rfl)
     try simp only [Act.put, tA, tZ, tS]
     refine wpList_nil ?_
     have B9 := T8.out.res.over zc
     have KZ := keep_setCells (b := w.heap.size) (arr 34 zc).toList 0 w8
     have G9 : Hid (Below w.heap.size w (w8.setCells w.heap.size 0 (arr 34 zc).toList)) := (T8.out.keep.trans (KZ.mono fun b hb _ => by omega)).below (Nat.le_refl _)
     clear T8 KZ
     generalize w8.setCells w.heap.size 0 (arr 34 zc).toList = w10 at B9 G9 ⊢
     go_wp2
     exact bodyPost_ret (results_blk2 rfl _ _ w.heap.size 134 34 zc B9 _ rfl Tryz.underlying134 rfl szCommit) rfl ⟨⟨fun _ => 0, 0, ps, []⟩, .slice none 0 0, by rw [decide_eq_false HT.out]; rfl, Or.inl ⟨none, 0, rfl, rfl⟩, fun h => absurd h HT.out, Fresh.nil _, G9.out⟩
   ·have d0 : (q != 0) = true := by simpa using h0
    have HT : Hid (¬ isCom l) := fun h => h0 (CE.out.1.2 h).1
    clear h0 CE
    refine wp_region_lit ?_
    refine wpList_valS (v := ?_) (by kernel_rfl) ?_ ?_
    rotate_left 1
    ·(go_simp; try with_reducible rfl)
    try simp only [Act.put, tA, tZ, tS]
    refine wpList_callG (by kernel_rfl) fun K hK => ?_
    go_simp
    refine (HE2.out _ _ T6.out.rd).mono ?_
    rintro e w8 ⟨rfl, hB7⟩
    refine hK _ _ ?_
    clear hK K
    try simp only [Act.put, tA, tZ, tS]
    have T8 := Lib.hid (T6.out.below hB7)
    clear hB7 T6 HE2
    iterate 2
     refine wpList_valS (v := ?_) (by kernel_rfl) ?_ ?_
     rotate_left 1
     ·(go_simp; try with_reducible rfl)
     try simp only [Act.put, tA, tZ, tS]
    refine wpList_skipG (by kernel_rfl) ?_
    try simp only [Act.put, tA, tZ, tS]
    refine wpList_skipG (by kernel_rfl) ?_
    try simp only [Act.put, tA, tZ, tS]
    refine wpList_skipG (by kernel_rfl) ?_
    try simp only [Act.put, tA, tZ, tS]
    iterate 2
     refine wpList_valS (v := ?_) (by kernel_rfl) ?_ ?_
     rotate_left 1
     ·(go_simp; try with_reducible rfl)
     try simp only [Act.put, tA, tZ, tS]
    refine wpList_skipG (by kernel_rfl) ?_
    try simp only [Act.put, tA, tZ, tS]
    refine wpList_skipG (by kernel_rfl) ?_
    try simp only [Act.put, tA, tZ, tS]
    refine wpList_skipG (by kernel_rfl) ?_
    try simp only [Act.put, tA, tZ, tS]
    refine wpList_skipG (by kernel_rfl) ?_
    try simp only [Act.put, tA, tZ, tS]
    refine wpList_valS (v := ?_) (by kernel_rfl) ?_ ?_
    rotate_left 1
    ·(go_simp; try with_reducible rfl)
    try simp only [Act.put, tA, tZ, tS]
    refine wpList_nil ?_
    go_upto_region 11 with fail
    refine wp_region_lit ?_
    refine wpList_valG (by kernel_rfl) (ex_build0 rfl (bd_zcom _)) ?_
    try simp only [Act.put, tA, tZ, tS]
    refine wpList_unitG (by kernel_rfl) (ex_store 134 (.tmp 2) (.tmp 46) rfl w.heap.size 0 34 zc rfl rfl (T8.out.res.there 0 34 (by omega)) szCommit (fun i _ => zc_one i)) ?_
    try simp only [Act.put, tA, tZ, tS]
    refine wpList_valS (v := ?_) (by kernel_rfl) ?_ ?_
    rotate_left 1
    ·(go_simp; try with_reducible rfl)
    try simp only [Act.put, tA, tZ, tS]
    refine wpList_nil ?_
    have B9 := T8.out.res.over zc
    have KZ := keep_setCells (b := w.heap.size) (arr 34 zc).toList 0 w8
    have G9 : Hid (Below w.heap.size w (w8.setCells w.heap.size 0 (arr 34 zc).toList)) := (T8.out.keep.trans (KZ.mono fun b hb _ => by omega)).below (Nat.le_refl _)
    clear T8 KZ
    generalize w8.setCells w.heap.size 0 (arr 34 zc).toList = w10 at B9 G9 ⊢
    go_wp2
    exact bodyPost_ret (results_blk2 rfl _ _ w.heap.size 134 34 zc B9 _ rfl Tryz.underlying134 rfl szCommit) rfl ⟨⟨fun _ => 0, 0, ps, []⟩, .slice none 0 0, by rw [decide_eq_false HT.out]; rfl, Or.inl ⟨none, 0, rfl, rfl⟩, fun h => absurd h HT.out, Fresh.nil _, G9.out⟩
end Go.Proofs.YtnmjcpoobabjgaaGreatDoor
/- The document's answer: whether an object may be. -/
namespace Go.Proofs.YtnmjcpoobabjgaaGreatDoor
open Go.RowKit Classical
theorem qrow_one {w : World} {v : Value} {m n : Nat} {c : Nat → Value} (h : Row w v m c n) : v.oneCell' = true := by
  obtain ⟨ad, cap, rfl, _⟩ := row_addr h
  rfl
set_option maxHeartbeats 2000000 in
set_option maxRecDepth 100000 in
theorem qright_any (k : Int) (l : List UInt8) (w : World) :
    Calls Tryz.prog 53 #[.agg #[.int .i64 k, .string (bs l)]] w fun e w' => e = .returned (.bool (decide (objOk k l))) ∧ Below w.heap.size w w' := by
  have hz := bs_size l
  have L0 : Hid (Below w.heap.size w (w.alloc (.cells #[.int .i64 k, .string (bs l)] 43))) := (Below.refl _ _).alloc (Nat.le_refl _) _
  have c0 : (w.alloc (.cells #[.int .i64 k, .string (bs l)] 43)).cell? ⟨w.heap.size, 0, none⟩ = some (.int .i64 k) := cell_of_row _ _ _ _ _ _ (heap_alloc_new _ _)
  have c1 : (w.alloc (.cells #[.int .i64 k, .string (bs l)] 43)).cell? ⟨w.heap.size, 1, none⟩ = some (.string (bs l)) := cell_of_row _ _ _ _ _ _ (heap_alloc_new _ _)
  have CE : Hid (l.length ≤ 1000000 → ∀ W, Calls Tryz.prog 78 #[.string (bs l)] W fun e w' => ∃ v, e = .returned (.tuple #[v, .bool (decide (isTree l))]) ∧ Below W.heap.size W w') := fun h W => (qentries_any l W h).mono fun e w' ⟨_, _, v, h1, _, _, _, h2⟩ => ⟨v, h1, h2⟩
  have CC : Hid (l.length ≤ 1000000 → ∀ W, Calls Tryz.prog 79 #[.string (bs l)] W fun e w' => ∃ t v s, v.oneCell' = true ∧ e = .returned (.tuple #[.agg (arr 34 (cv t v s)), .bool (decide (isCom l))]) ∧ Below W.heap.size W w') := fun h W => (qcommit_any l W h).mono fun e w' ⟨c, v, h1, h3, _, _, h2⟩ => ⟨_, v, _, qrow_one h3, h1, h2⟩
  by_cases hl : l.length ≤ 4096
  · have s1 : ((bs l).size : Int) ≤ 4096 := by omega
    have E2 : k = 2 → decide (objOk k l) = decide (isTree l) := fun h => decide_eq_decide.2 ⟨fun g => by
        rcases g.2 with g | ⟨_, g⟩ | ⟨g, _⟩
        · omega
        · exact g
        · omega, fun g => ⟨hl, .inr (.inl ⟨h, g⟩)⟩⟩
    have E3 : k = 3 → decide (objOk k l) = decide (isCom l) := fun h => decide_eq_decide.2 ⟨fun g => by
        rcases g.2 with g | ⟨g, _⟩ | ⟨_, g⟩
        · omega
        · omega
        · exact g, fun g => ⟨hl, .inr (.inr ⟨h, g⟩)⟩⟩
    have E1 : k ≠ 2 → k ≠ 3 → decide (objOk k l) = (k == 1) := fun h2 h3 => by
      by_cases h1 : k = 1
      · rw [decide_eq_true (show objOk k l from ⟨hl, .inl h1⟩)]; simp [h1]
      · rw [decide_eq_false (show ¬ objOk k l from fun g => by
          rcases g.2 with g | ⟨g, _⟩ | ⟨g, _⟩
          · exact h1 g
          · exact h2 g
          · exact h3 g)]
        simp [h1]
    by_cases k2 : k = 2
    · have e := E2 k2
      rw [e]
      subst k2
      generalize decide (isTree l) = r at CE
      have CE' := Lib.hid (CE.out (by omega))
      generalize bs l = sb at c0 c1 L0 s1 CE' ⊢
      clear hz E1 E2 E3 CE CC hl e
      go_enter Tryz.func53, Tryz.ntmps53
      go_wp2_with fail
      refine (CE'.out _).mono ?_
      rintro e w2 ⟨v, rfl, B2⟩
      have L2 := Lib.hid (L0.out.trans (B2.mono L0.out.size))
      clear B2 CE' c0 c1 L0
      go_wp2
      go_ret
      exact ⟨rfl, L2.out⟩
    · by_cases k3 : k = 3
      · have e := E3 k3
        rw [e]
        subst k3
        generalize decide (isCom l) = r at CC
        have CC' := Lib.hid (CC.out (by omega))
        generalize bs l = sb at c0 c1 L0 s1 CC' ⊢
        clear hz E1 E2 E3 CE CC hl e
        go_enter Tryz.func53, Tryz.ntmps53
        go_wp2_with fail
        refine (CC'.out _).mono ?_
        rintro e w2 ⟨t, v, s, hv, rfl, B2⟩
        have L2 := Lib.hid (L0.out.trans (B2.mono L0.out.size))
        have HV := Lib.hid hv
        have L3 := Lib.hid (L2.out.alloc L2.out.size (.cells (arr 34 (cv t v s)) 134))
        clear B2 CC' c0 c1 L0 hv L2
        go_upto_region 8 with (refine wpList_store_blk rfl 134 (.tmp 5) (.tmp 28) rfl w2.heap.size 34 (cv t v s) zc rfl rfl 134 (Blk.newAt _ (heap_alloc_new _ _) rfl) szCommit (fun i _ => cv_one _ _ HV.out _ i) ?_)
        rw [World.setRow_alloc_new]
        generalize w2.alloc (.cells (arr 34 (cv t v s)) 134) = w3 at L3 ⊢
        go_wp2
        go_ret
        exact ⟨rfl, L3.out⟩
      · have e := E1 k2 k3
        rw [e]
        have t2 : (k == 2) = false := by simpa using k2
        have t3 : (k == 3) = false := by simpa using k3
        generalize bs l = sb at c0 c1 L0 s1 ⊢
        clear hz E1 E2 E3 CE CC hl k2 k3 e
        go_enter Tryz.func53, Tryz.ntmps53
        go_wp2
        go_ret
        exact ⟨rfl, L0.out⟩
  · have s1 : (4096 : Int) < ((bs l).size : Int) := by omega
    rw [decide_eq_false (show ¬ objOk k l from fun h => hl h.1)]
    generalize bs l = sb at c0 c1 L0 s1 ⊢
    clear hz hl CE CC
    go_enter Tryz.func53, Tryz.ntmps53
    go_wp2
    go_ret
    exact ⟨rfl, L0.out⟩
end Go.Proofs.YtnmjcpoobabjgaaGreatDoor
/- The document's answer: the object of a frame. -/
namespace Go.Proofs.YtnmjcpoobabjgaaGreatDoor
open Go.RowKit Classical
theorem qread_frame {c : UInt8} {t b : List UInt8} {p2 : Nat} {e2 : Int} (h2 : rText 4096 t 0 0 = (b, p2, e2)) (hk : kix c ≠ 0) :
  (endOf t.length p2 e2 = 0 → objOk (kix c) b → IsFrame (c :: t) (kix c) b) ∧ (∀ k l, IsFrame (c :: t) k l → endOf t.length p2 e2 = 0 ∧ kix c = k ∧ b = l) := by
 have l2 : p2 ≤ t.length := by have := rText_le 4096 t 0 0 (Nat.zero_le _); rw [h2] at this; exact this
 refine ⟨fun h0 hok => ⟨hok, ?_⟩, fun k l hf => ?_⟩
 ·unfold endOf at h0
  split at h0
  ·rename_i h; exact absurd h0 h
  ·rename_i h
   split at h0
   ·omega
   ·have e0 : e2 = 0 := by omega
    subst e0
    have hp : p2 = t.length := by omega
    obtain ⟨t1, -, -, -, -⟩ := text_there (Nat.zero_le _) h2
    rw [hp, List.take_length, List.take_zero, List.nil_append] at t1
    unfold fb
    rw [lt_kix hk, t1]
 ·obtain ⟨hok, hf⟩ := hf
  have hk := obj_kind hok
  have hl := hok.1
  have hf2 : c = lt k ∧ t = tx l := by
   have h3 : c :: t = lt k :: tx l := hf
   injection h3 with a b
   exact ⟨a, b⟩
  obtain ⟨hc, ht⟩ := hf2
  have d1 : t.drop 0 = tx l ++ [] := by rw [List.drop_zero, ht]; simp
  have g2 := text_read (most := 4096) d1 (Nat.zero_le _) (by omega) (by omega)
  rw [h2] at g2
  simp only [Prod.mk.injEq] at g2
  obtain ⟨b1, b2, b3⟩ := g2
  have hlen : t.length = (tx l).length := by rw [ht]
  refine ⟨?_, by rw [hc]; exact kix_lt hk, b1⟩
  unfold endOf
  rw [if_neg (by omega), if_neg (by omega)]
theorem no_frame_nil : ¬ isFrame [] := fun ⟨k, l, h⟩ => by have := h.2; unfold fb at this; cases this
theorem no_frame_kix {c : UInt8} {t : List UInt8} (h : kix c = 0) : ¬ isFrame (c :: t) := fun ⟨k, l, g⟩ => by
 have hk := obj_kind g.1
 have h3 : c :: t = lt k :: tx l := g.2
 injection h3 with a _
 have := kix_lt hk
 rw [← a, h] at this
 omega
theorem bd_zobj (w : World) : (Instr.build 43 #[]).run Tryz.prog w = .ok (.agg (arr 2 (ov 0 []))) w := by kernel_rfl
/- the three blocks of the call's own: what it answers (N), the object (N + 1), the reader (N + 2) -/
structure QO (w0 : World) (t : List UInt8) (k : Int) (b : List UInt8) (p : Nat) (e : Int) (w : World) : Prop where
 keep : Keep (fun b => b < w0.heap.size) w0 w
 res : Blk w w0.heap.size 43 2 (ov 0 [])
 obj : Blk w (w0.heap.size + 1) 43 2 (ov k b)
 rd : Rq w (w0.heap.size + 1 + 1) t p e
theorem QO.below {w0 w w' : World} {t b : List UInt8} {k : Int} {p : Nat} {e : Int} (h : QO w0 t k b p e w) (hb : Below w.heap.size w w') : QO w0 t k b p e w' :=
 ⟨h.keep.trans (Keep.all hb), h.res.below hb h.res.lt, h.obj.below hb h.obj.lt, h.rd.keep (K := fun _ => True) (Keep.all hb) trivial⟩
theorem QO.call {w0 w w' : World} {t b : List UInt8} {k : Int} {p p' : Nat} {e e' : Int} (h : QO w0 t k b p e w) (g : Rq w' (w0.heap.size + 1 + 1) t p' e') (kk : Keep (fun k => k ≠ w0.heap.size + 1 + 1) w w') : QO w0 t k b p' e' w' :=
 ⟨h.keep.trans (kk.mono fun b hb _ => by omega), kk.blk (by omega) h.res, kk.blk (by omega) h.obj, g⟩
theorem ov_body (k : Int) (l l' : List UInt8) (j : Nat) (hj : j < 2) : (if j = 1 then .string (bs l') else ov k l j) = ov k l' j := by
 unfold ov
 by_cases c : j = 0
 ·subst c; rfl
 ·rw [if_pos (by omega), if_neg c]
theorem ov_kind (k k' : Int) (l : List UInt8) (j : Nat) : (if j = 0 then .int .i64 k' else ov k l j) = ov k' l j := by
 unfold ov
 by_cases c : j = 0
 ·rw [if_pos c, if_pos c]
 ·rw [if_neg c, if_neg c, if_neg c]
theorem QO.body {w0 w : World} {t b b' : List UInt8} {k : Int} {p : Nat} {e : Int} (h : QO w0 t k b p e w) : QO w0 t k b' p e (w.setCell ⟨w0.heap.size + 1, 1, none⟩ (.string (bs b'))) := by
 have KZ : Keep (fun b => b ≠ w0.heap.size + 1) w (w.setCell ⟨w0.heap.size + 1, 1, none⟩ (.string (bs b'))) := (Keep.refl _ w).setCell (fun hh => hh rfl) _
 exact ⟨h.keep.trans (KZ.mono fun b hb _ => by omega), KZ.blk (by omega) h.res, (h.obj.set 1 _).congr fun j hj => ov_body _ _ _ _ hj, h.rd.keep KZ (by omega)⟩
/- ahead of the reader -/
structure QP (w0 : World) (k : Int) (w : World) : Prop where
 keep : Keep (fun b => b < w0.heap.size) w0 w
 res : Blk w w0.heap.size 43 2 (ov 0 [])
 obj : Blk w (w0.heap.size + 1) 43 2 (ov k [])
 size : w.heap.size = w0.heap.size + 1 + 1
theorem QP.start (w : World) : QP w 0 ((w.alloc (.cells (arr 2 (ov 0 [])) 43)).alloc (.cells (arr 2 (ov 0 [])) 43)) := by
 have z1 : (w.alloc (.cells (arr 2 (ov 0 [])) 43)).heap.size = w.heap.size + 1 := by simp
 have b1 : Blk ((w.alloc (.cells (arr 2 (ov 0 [])) 43)).alloc (.cells (arr 2 (ov 0 [])) 43)) (w.heap.size + 1) 43 2 (ov 0 []) := by
  rw [← z1]; exact Blk.newAt _ (heap_alloc_new _ _) rfl
 exact ⟨((Keep.refl _ w).alloc _).alloc _, (Blk.newAt _ (heap_alloc_new w _) rfl : Blk (w.alloc (.cells (arr 2 (ov 0 [])) 43)) w.heap.size 43 2 (ov 0 [])).alloc _, b1, by simp⟩
theorem QP.zero {w0 w : World} (h : QP w0 0 w) : QP w0 0 (w.setRow (w0.heap.size + 1) (arr 2 (ov 0 []))) := by
 have KZ : Keep (fun b => b ≠ w0.heap.size + 1) w (w.setRow (w0.heap.size + 1) (arr 2 (ov 0 []))) := (Keep.refl _ w).setRow (fun hh => hh rfl) _
 exact ⟨h.keep.trans (KZ.mono fun b hb _ => by omega), KZ.blk (by omega) h.res, h.obj.setRow _, by simp; exact h.size⟩
theorem QP.kind {w0 w : World} {k k' : Int} (h : QP w0 k w) : QP w0 k' (w.setCell ⟨w0.heap.size + 1, 0, none⟩ (.int .i64 k')) := by
 have KZ : Keep (fun b => b ≠ w0.heap.size + 1) w (w.setCell ⟨w0.heap.size + 1, 0, none⟩ (.int .i64 k')) := (Keep.refl _ w).setCell (fun hh => hh rfl) _
 exact ⟨h.keep.trans (KZ.mono fun b hb _ => by omega), KZ.blk (by omega) h.res, (h.obj.set 0 _).congr fun j _ => ov_kind _ _ _ _, by simp; exact h.size⟩
theorem QP.reader {w0 w : World} {k : Int} (h : QP w0 k w) (t : List UInt8) : QO w0 t k [] 0 0 (w.alloc (.cells #[.string (bs t), .int .i64 0, .int .i64 0] 108)) :=
 ⟨h.keep.alloc _, h.res.alloc _, h.obj.alloc _, by rw [← h.size]; exact heap_alloc_new _ _⟩
set_option maxHeartbeats 4000000 in
set_option maxRecDepth 100000 in
theorem qread_1 (t : List UInt8) (w : World) (hf : t.length ≤ 6000) :
  Calls Tryz.prog 32 #[.string (bs (98 :: t))] w fun e w' => (∀ k l, IsFrame (98 :: t) k l → e = .returned (.tuple #[.agg (arr 2 (ov k l)), .bool true])) ∧ (¬ isFrame (98 :: t) → e = .returned (.tuple #[.agg (arr 2 (ov 0 [])), .bool false])) ∧ Below w.heap.size w w' := by
 have T0 := Lib.hid (QP.start w)
 have T1 := Lib.hid T0.out.zero
 have ix : ∀ W : World, (Instr.index 9 (.string (bs (98 :: t))) (.int .i64 0)).run Tryz.prog W = .ok (.int .u8 98) W := fun W => idx_bs (98 :: t) 0 (by simp) W
 have hz := bs_size (98 :: t)
 rw [List.length_cons] at hz
 have ex : (bs (98 :: t)).extract 1 (bs (98 :: t)).size = bs t := by
  rw [bs_extract]
  congr 1
  rw [bs_size]
  simp
 obtain ⟨b, p2, e2, h2⟩ : ∃ b p2 e2, rText 4096 t 0 0 = (b, p2, e2) := ⟨_, _, _, rfl⟩
 have HRF := Lib.hid (qread_frame (c := 98) h2 (by decide))
 rw [show kix 98 = 1 by decide] at HRF
 have C1 : Hid (∀ W r, Rq W r t 0 0 → Calls Tryz.prog 51 #[.pointer (some ⟨r, 0, none⟩), .int .i64 4096] W fun u w' => u = .returned (.string (bs b)) ∧ Rq w' r t p2 e2 ∧ Keep (fun k => k ≠ r) W w') := fun W r h => by
  have := qtext_any 4096 h (Nat.zero_le _) (by omega)
  rw [h2] at this; exact this
 obtain ⟨q, hq⟩ : ∃ q, q = endOf t.length p2 e2 := ⟨_, rfl⟩
 have HE : Hid (∀ W r, Rq W r t p2 e2 → Calls Tryz.prog 52 #[.pointer (some ⟨r, 0, none⟩)] W fun u w' => u = .returned (.int .i64 q) ∧ Below W.heap.size W w') := fun W r h => by rw [hq]; exact qend_any h
 rw [← hq] at HRF
 have HR : Hid (∀ W, Calls Tryz.prog 53 #[.agg (arr 2 (ov 1 b))] W fun e w' => e = .returned (.bool (decide (objOk 1 b))) ∧ Below W.heap.size W w') := fun W => qright_any 1 b W
 have sz : ((bs (98 :: t)).size : Int) = (t.length : Int) + 1 := by omega
 have sz0 : (((bs (98 :: t)).size : Int) == 0) = false := by rw [beq_eq_false_iff_ne]; omega
 have sz1 : (1 : Int) ≤ ((bs (98 :: t)).size : Int) := by omega
 clear hq h2 hz hf
 generalize bs (98 :: t) = sb at ix ex sz sz0 sz1 ⊢
 obtain ⟨sd, hsd⟩ : ∃ sd, sd = bs t := ⟨_, rfl⟩
 have SD := Lib.hid hsd
 rw [← hsd] at ex
 clear hsd sz
 go_enter Tryz.func32, Tryz.ntmps32
 go_upto_region 4 with (first | (refine wpList_val rfl _ _ (ex_build0 rfl (bd_zobj _)) ?_) | (refine wpList_store_blk rfl 43 (.tmp 4) (.tmp 10) rfl (w.heap.size + 1) 2 (ov 0 []) (ov 0 []) rfl rfl 43 T0.out.obj szObject (fun i _ => ov_one _ _ i) ?_))
 change Code.wp Tryz.prog _ _ _ (((w.alloc (.cells (arr 2 (ov 0 [])) 43)).alloc (.cells (arr 2 (ov 0 [])) 43)).setRow (w.heap.size + 1) (arr 2 (ov 0 [])))
 generalize ((w.alloc (.cells (arr 2 (ov 0 [])) 43)).alloc (.cells (arr 2 (ov 0 [])) 43)).setRow (w.heap.size + 1) (arr 2 (ov 0 [])) = w1 at T1 ⊢
 clear T0
 have c0 : w1.cell? ⟨w.heap.size + 1, 0, none⟩ = some (.int .i64 0) := T1.out.obj.cell 0 (by omega)
 have f0 : w1.frozen? ⟨w.heap.size + 1, 0, none⟩ = false := T1.out.obj.frozen 0
 have T2 := Lib.hid (T1.out.kind (k' := 1))
 clear T1
 go_upto_region 12 with fail
 clear c0 f0 ix
 generalize w1.setCell ⟨w.heap.size + 1, 0, none⟩ (.int .i64 1) = w2 at T2 ⊢
 have z2 := T2.out.size
 have T3 : Hid (QO w t 1 [] 0 0 (w2.alloc (.cells #[.string sd, .int .i64 0, .int .i64 0] 108))) := by
  rw [SD.out]; exact T2.out.reader t
 clear T2
 go_upto_region 13 with fail
 clear ex
 go_wp2_with fail
 refine (C1.out _ _ T3.out.rd).mono ?_
 rintro e w4 ⟨rfl, R4, K4⟩
 have T4 := Lib.hid (T3.out.call R4 K4)
 have c1 : w4.cell? ⟨w.heap.size + 1, 1, none⟩ = some (.string (bs [])) := T4.out.obj.cell 1 (by omega)
 have f1 : w4.frozen? ⟨w.heap.size + 1, 1, none⟩ = false := T4.out.obj.frozen 1
 have T5 := Lib.hid (T4.out.body (b' := b))
 clear R4 K4 T3 T4 C1
 generalize bs [] = sb0 at c1
 go_upto_region 14 with fail
 clear c1 f1
 generalize w4.setCell ⟨w.heap.size + 1, 1, none⟩ (.string (bs b)) = w5 at T5 ⊢
 by_cases h0 : q = 0
 ·subst h0
  by_cases hok : objOk 1 b
  ·have HF := Lib.hid (HRF.out.1 rfl hok)
   rw [decide_eq_true hok] at HR
   clear hok
   refine wp_region_lit ?_
   refine wpList_valS (v := ?_) (by kernel_rfl) ?_ ?_
   rotate_left 1
   ·(go_simp; try with_reducible rfl)
   try simp only [Act.put, tA, tZ, tS]
   refine wpList_callG (by kernel_rfl) fun K hK => ?_
   go_simp
   refine (HE.out _ _ T5.out.rd).mono ?_
   rintro e w7 ⟨rfl, hB7⟩
   refine hK _ _ ?_
   clear hK K
   try simp only [Act.put, tA, tZ, tS]
   have T7 := Lib.hid (T5.out.below hB7)
   clear hB7 T5 HE
   iterate 2
    refine wpList_valS (v := ?_) (by kernel_rfl) ?_ ?_
    rotate_left 1
    ·(go_simp; try with_reducible rfl)
    try simp only [Act.put, tA, tZ, tS]
   refine wpList_valG (by kernel_rfl) (ex_load 43 (.tmp 4) rfl (w.heap.size + 1) 0 2 (ov 1 b) rfl Tryz.underlying43 rfl szObject T7.out.obj.at0) ?_
   try simp only [Act.put, tA, tZ, tS]
   refine wpList_callG (by kernel_rfl) fun K hK => ?_
   go_simp
   refine (HR.out _).mono ?_
   rintro e w8 ⟨rfl, hB8⟩
   refine hK _ _ ?_
   clear hK K
   try simp only [Act.put, tA, tZ, tS]
   have T8 := Lib.hid (T7.out.below hB8)
   clear hB8 T7 HR
   iterate 2
    refine wpList_valS (v := ?_) (by kernel_rfl) ?_ ?_
    rotate_left 1
    ·(go_simp; try with_reducible rfl)
    try simp only [Act.put, tA, tZ, tS]
   refine wpList_nil ?_
   go_upto_region 16 with fail
   refine wp_region_lit ?_
   refine wpList_valG (by kernel_rfl) (ex_load 43 (.tmp 4) rfl (w.heap.size + 1) 0 2 (ov 1 b) rfl Tryz.underlying43 rfl szObject T8.out.obj.at0) ?_
   try simp only [Act.put, tA, tZ, tS]
   refine wpList_unitG (by kernel_rfl) (ex_store 43 (.tmp 2) (.tmp 39) rfl w.heap.size 0 2 (ov 1 b) rfl rfl (T8.out.res.there 0 2 (by omega)) szObject (fun i _ => ov_one _ _ i)) ?_
   try simp only [Act.put, tA, tZ, tS]
   refine wpList_valS (v := ?_) (by kernel_rfl) ?_ ?_
   rotate_left 1
   ·(go_simp; try with_reducible rfl)
   try simp only [Act.put, tA, tZ, tS]
   refine wpList_nil ?_
   have B9 := T8.out.res.over (ov 1 b)
   have KZ := keep_setCells (b := w.heap.size) (arr 2 (ov 1 b)).toList 0 w8
   have G9 : Hid (Below w.heap.size w (w8.setCells w.heap.size 0 (arr 2 (ov 1 b)).toList)) := (T8.out.keep.trans (KZ.mono fun b hb _ => by omega)).below (Nat.le_refl _)
   clear T8 KZ
   generalize w8.setCells w.heap.size 0 (arr 2 (ov 1 b)).toList = w10 at B9 G9 ⊢
   go_wp2
   exact bodyPost_ret (results_blk2 rfl _ _ w.heap.size 43 2 (ov 1 b) B9 _ rfl Tryz.underlying43 rfl szObject) rfl ⟨fun k l h => (by
    obtain ⟨_, g1, g2⟩ := HRF.out.2 k l h
    rw [← g1, ← g2]; rfl), fun h => absurd ⟨_, _, HF.out⟩ h, G9.out⟩
  ·have NF : Hid (¬ isFrame (98 :: t)) := fun ⟨k, l, h⟩ => by
    obtain ⟨_, g1, g2⟩ := HRF.out.2 k l h
    exact hok (by rw [g1, g2]; exact h.1)
   rw [decide_eq_false hok] at HR
   clear hok
   refine wp_region_lit ?_
   refine wpList_valS (v := ?_) (by kernel_rfl) ?_ ?_
   rotate_left 1
   ·(go_simp; try with_reducible rfl)
   try simp only [Act.put, tA, tZ, tS]
   refine wpList_callG (by kernel_rfl) fun K hK => ?_
   go_simp
   refine (HE.out _ _ T5.out.rd).mono ?_
   rintro e w7 ⟨rfl, hB7⟩
   refine hK _ _ ?_
   clear hK K
   try simp only [Act.put, tA, tZ, tS]
   have T7 := Lib.hid (T5.out.below hB7)
   clear hB7 T5 HE
   iterate 2
    refine wpList_valS (v := ?_) (by kernel_rfl) ?_ ?_
    rotate_left 1
    ·(go_simp; try with_reducible rfl)
    try simp only [Act.put, tA, tZ, tS]
   refine wpList_valG (by kernel_rfl) (ex_load 43 (.tmp 4) rfl (w.heap.size + 1) 0 2 (ov 1 b) rfl Tryz.underlying43 rfl szObject T7.out.obj.at0) ?_
   try simp only [Act.put, tA, tZ, tS]
   refine wpList_callG (by kernel_rfl) fun K hK => ?_
   go_simp
   refine (HR.out _).mono ?_
   rintro e w8 ⟨rfl, hB8⟩
   refine hK _ _ ?_
   clear hK K
   try simp only [Act.put, tA, tZ, tS]
   have T8 := Lib.hid (T7.out.below hB8)
   clear hB8 T7 HR
   iterate 2
    refine wpList_valS (v := ?_) (by kernel_rfl) ?_ ?_
    rotate_left 1
    ·(go_simp; try with_reducible rfl)
    try simp only [Act.put, tA, tZ, tS]
   refine wpList_nil ?_
   go_upto_region 15 with fail
   refine wp_region_lit ?_
   refine wpList_valG (by kernel_rfl) (ex_build0 rfl (bd_zobj _)) ?_
   try simp only [Act.put, tA, tZ, tS]
   refine wpList_unitG (by kernel_rfl) (ex_store 43 (.tmp 2) (.tmp 38) rfl w.heap.size 0 2 (ov 0 []) rfl rfl (T8.out.res.there 0 2 (by omega)) szObject (fun i _ => ov_one _ _ i)) ?_
   try simp only [Act.put, tA, tZ, tS]
   refine wpList_valS (v := ?_) (by kernel_rfl) ?_ ?_
   rotate_left 1
   ·(go_simp; try with_reducible rfl)
   try simp only [Act.put, tA, tZ, tS]
   refine wpList_nil ?_
   have B9 := T8.out.res.over (ov 0 [])
   have KZ := keep_setCells (b := w.heap.size) (arr 2 (ov 0 [])).toList 0 w8
   have G9 : Hid (Below w.heap.size w (w8.setCells w.heap.size 0 (arr 2 (ov 0 [])).toList)) := (T8.out.keep.trans (KZ.mono fun b hb _ => by omega)).below (Nat.le_refl _)
   clear T8 KZ
   generalize w8.setCells w.heap.size 0 (arr 2 (ov 0 [])).toList = w10 at B9 G9 ⊢
   go_wp2
   exact bodyPost_ret (results_blk2 rfl _ _ w.heap.size 43 2 (ov 0 []) B9 _ rfl Tryz.underlying43 rfl szObject) rfl ⟨fun k l h => absurd ⟨k, l, h⟩ NF.out, fun _ => rfl, G9.out⟩
 ·have d0 : (q != 0) = true := by simpa using h0
  have NF : Hid (¬ isFrame (98 :: t)) := fun ⟨k, l, h⟩ => h0 (HRF.out.2 k l h).1
  clear h0
  refine wp_region_lit ?_
  refine wpList_valS (v := ?_) (by kernel_rfl) ?_ ?_
  rotate_left 1
  ·(go_simp; try with_reducible rfl)
  try simp only [Act.put, tA, tZ, tS]
  refine wpList_callG (by kernel_rfl) fun K hK => ?_
  go_simp
  refine (HE.out _ _ T5.out.rd).mono ?_
  rintro e w8 ⟨rfl, hB7⟩
  refine hK _ _ ?_
  clear hK K
  try simp only [Act.put, tA, tZ, tS]
  have T8 := Lib.hid (T5.out.below hB7)
  clear hB7 T5 HE
  iterate 2
   refine wpList_valS (v := ?_) (by kernel_rfl) ?_ ?_
   rotate_left 1
   ·(go_simp; try with_reducible rfl)
   try simp only [Act.put, tA, tZ, tS]
  refine wpList_skipG (by kernel_rfl) ?_
  try simp only [Act.put, tA, tZ, tS]
  refine wpList_skipG (by kernel_rfl) ?_
  try simp only [Act.put, tA, tZ, tS]
  refine wpList_skipG (by kernel_rfl) ?_
  try simp only [Act.put, tA, tZ, tS]
  refine wpList_valS (v := ?_) (by kernel_rfl) ?_ ?_
  rotate_left 1
  ·(go_simp; try with_reducible rfl)
  try simp only [Act.put, tA, tZ, tS]
  refine wpList_nil ?_
  go_upto_region 15 with fail
  refine wp_region_lit ?_
  refine wpList_valG (by kernel_rfl) (ex_build0 rfl (bd_zobj _)) ?_
  try simp only [Act.put, tA, tZ, tS]
  refine wpList_unitG (by kernel_rfl) (ex_store 43 (.tmp 2) (.tmp 38) rfl w.heap.size 0 2 (ov 0 []) rfl rfl (T8.out.res.there 0 2 (by omega)) szObject (fun i _ => ov_one _ _ i)) ?_
  try simp only [Act.put, tA, tZ, tS]
  refine wpList_valS (v := ?_) (by kernel_rfl) ?_ ?_
  rotate_left 1
  ·(go_simp; try with_reducible rfl)
  try simp only [Act.put, tA, tZ, tS]
  refine wpList_nil ?_
  have B9 := T8.out.res.over (ov 0 [])
  have KZ := keep_setCells (b := w.heap.size) (arr 2 (ov 0 [])).toList 0 w8
  have G9 : Hid (Below w.heap.size w (w8.setCells w.heap.size 0 (arr 2 (ov 0 [])).toList)) := (T8.out.keep.trans (KZ.mono fun b hb _ => by omega)).below (Nat.le_refl _)
  clear T8 KZ
  generalize w8.setCells w.heap.size 0 (arr 2 (ov 0 [])).toList = w10 at B9 G9 ⊢
  go_wp2
  exact bodyPost_ret (results_blk2 rfl _ _ w.heap.size 43 2 (ov 0 []) B9 _ rfl Tryz.underlying43 rfl szObject) rfl ⟨fun k l h => absurd ⟨k, l, h⟩ NF.out, fun _ => rfl, G9.out⟩
set_option maxHeartbeats 4000000 in
set_option maxRecDepth 100000 in
theorem qread_2 (t : List UInt8) (w : World) (hf : t.length ≤ 6000) :
  Calls Tryz.prog 32 #[.string (bs (116 :: t))] w fun e w' => (∀ k l, IsFrame (116 :: t) k l → e = .returned (.tuple #[.agg (arr 2 (ov k l)), .bool true])) ∧ (¬ isFrame (116 :: t) → e = .returned (.tuple #[.agg (arr 2 (ov 0 [])), .bool false])) ∧ Below w.heap.size w w' := by
 have T0 := Lib.hid (QP.start w)
 have T1 := Lib.hid T0.out.zero
 have ix : ∀ W : World, (Instr.index 9 (.string (bs (116 :: t))) (.int .i64 0)).run Tryz.prog W = .ok (.int .u8 116) W := fun W => idx_bs (116 :: t) 0 (by simp) W
 have hz := bs_size (116 :: t)
 rw [List.length_cons] at hz
 have ex : (bs (116 :: t)).extract 1 (bs (116 :: t)).size = bs t := by
  rw [bs_extract]
  congr 1
  rw [bs_size]
  simp
 obtain ⟨b, p2, e2, h2⟩ : ∃ b p2 e2, rText 4096 t 0 0 = (b, p2, e2) := ⟨_, _, _, rfl⟩
 have HRF := Lib.hid (qread_frame (c := 116) h2 (by decide))
 rw [show kix 116 = 2 by decide] at HRF
 have C1 : Hid (∀ W r, Rq W r t 0 0 → Calls Tryz.prog 51 #[.pointer (some ⟨r, 0, none⟩), .int .i64 4096] W fun u w' => u = .returned (.string (bs b)) ∧ Rq w' r t p2 e2 ∧ Keep (fun k => k ≠ r) W w') := fun W r h => by
  have := qtext_any 4096 h (Nat.zero_le _) (by omega)
  rw [h2] at this; exact this
 obtain ⟨q, hq⟩ : ∃ q, q = endOf t.length p2 e2 := ⟨_, rfl⟩
 have HE : Hid (∀ W r, Rq W r t p2 e2 → Calls Tryz.prog 52 #[.pointer (some ⟨r, 0, none⟩)] W fun u w' => u = .returned (.int .i64 q) ∧ Below W.heap.size W w') := fun W r h => by rw [hq]; exact qend_any h
 rw [← hq] at HRF
 have HR : Hid (∀ W, Calls Tryz.prog 53 #[.agg (arr 2 (ov 2 b))] W fun e w' => e = .returned (.bool (decide (objOk 2 b))) ∧ Below W.heap.size W w') := fun W => qright_any 2 b W
 have sz : ((bs (116 :: t)).size : Int) = (t.length : Int) + 1 := by omega
 have sz0 : (((bs (116 :: t)).size : Int) == 0) = false := by rw [beq_eq_false_iff_ne]; omega
 have sz1 : (1 : Int) ≤ ((bs (116 :: t)).size : Int) := by omega
 clear hq h2 hz hf
 generalize bs (116 :: t) = sb at ix ex sz sz0 sz1 ⊢
 obtain ⟨sd, hsd⟩ : ∃ sd, sd = bs t := ⟨_, rfl⟩
 have SD := Lib.hid hsd
 rw [← hsd] at ex
 clear hsd sz
 go_enter Tryz.func32, Tryz.ntmps32
 go_upto_region 4 with (first | (refine wpList_val rfl _ _ (ex_build0 rfl (bd_zobj _)) ?_) | (refine wpList_store_blk rfl 43 (.tmp 4) (.tmp 10) rfl (w.heap.size + 1) 2 (ov 0 []) (ov 0 []) rfl rfl 43 T0.out.obj szObject (fun i _ => ov_one _ _ i) ?_))
 change Code.wp Tryz.prog _ _ _ (((w.alloc (.cells (arr 2 (ov 0 [])) 43)).alloc (.cells (arr 2 (ov 0 [])) 43)).setRow (w.heap.size + 1) (arr 2 (ov 0 [])))
 generalize ((w.alloc (.cells (arr 2 (ov 0 [])) 43)).alloc (.cells (arr 2 (ov 0 [])) 43)).setRow (w.heap.size + 1) (arr 2 (ov 0 [])) = w1 at T1 ⊢
 clear T0
 have c0 : w1.cell? ⟨w.heap.size + 1, 0, none⟩ = some (.int .i64 0) := T1.out.obj.cell 0 (by omega)
 have f0 : w1.frozen? ⟨w.heap.size + 1, 0, none⟩ = false := T1.out.obj.frozen 0
 have T2 := Lib.hid (T1.out.kind (k' := 2))
 clear T1
 go_upto_region 12 with fail
 clear c0 f0 ix
 generalize w1.setCell ⟨w.heap.size + 1, 0, none⟩ (.int .i64 2) = w2 at T2 ⊢
 have z2 := T2.out.size
 have T3 : Hid (QO w t 2 [] 0 0 (w2.alloc (.cells #[.string sd, .int .i64 0, .int .i64 0] 108))) := by
  rw [SD.out]; exact T2.out.reader t
 clear T2
 go_upto_region 13 with fail
 clear ex
 go_wp2_with fail
 refine (C1.out _ _ T3.out.rd).mono ?_
 rintro e w4 ⟨rfl, R4, K4⟩
 have T4 := Lib.hid (T3.out.call R4 K4)
 have c1 : w4.cell? ⟨w.heap.size + 1, 1, none⟩ = some (.string (bs [])) := T4.out.obj.cell 1 (by omega)
 have f1 : w4.frozen? ⟨w.heap.size + 1, 1, none⟩ = false := T4.out.obj.frozen 1
 have T5 := Lib.hid (T4.out.body (b' := b))
 clear R4 K4 T3 T4 C1
 generalize bs [] = sb0 at c1
 go_upto_region 14 with fail
 clear c1 f1
 generalize w4.setCell ⟨w.heap.size + 1, 1, none⟩ (.string (bs b)) = w5 at T5 ⊢
 by_cases h0 : q = 0
 ·subst h0
  by_cases hok : objOk 2 b
  ·have HF := Lib.hid (HRF.out.1 rfl hok)
   rw [decide_eq_true hok] at HR
   clear hok
   refine wp_region_lit ?_
   refine wpList_valS (v := ?_) (by kernel_rfl) ?_ ?_
   rotate_left 1
   ·(go_simp; try with_reducible rfl)
   try simp only [Act.put, tA, tZ, tS]
   refine wpList_callG (by kernel_rfl) fun K hK => ?_
   go_simp
   refine (HE.out _ _ T5.out.rd).mono ?_
   rintro e w7 ⟨rfl, hB7⟩
   refine hK _ _ ?_
   clear hK K
   try simp only [Act.put, tA, tZ, tS]
   have T7 := Lib.hid (T5.out.below hB7)
   clear hB7 T5 HE
   iterate 2
    refine wpList_valS (v := ?_) (by kernel_rfl) ?_ ?_
    rotate_left 1
    ·(go_simp; try with_reducible rfl)
    try simp only [Act.put, tA, tZ, tS]
   refine wpList_valG (by kernel_rfl) (ex_load 43 (.tmp 4) rfl (w.heap.size + 1) 0 2 (ov 2 b) rfl Tryz.underlying43 rfl szObject T7.out.obj.at0) ?_
   try simp only [Act.put, tA, tZ, tS]
   refine wpList_callG (by kernel_rfl) fun K hK => ?_
   go_simp
   refine (HR.out _).mono ?_
   rintro e w8 ⟨rfl, hB8⟩
   refine hK _ _ ?_
   clear hK K
   try simp only [Act.put, tA, tZ, tS]
   have T8 := Lib.hid (T7.out.below hB8)
   clear hB8 T7 HR
   iterate 2
    refine wpList_valS (v := ?_) (by kernel_rfl) ?_ ?_
    rotate_left 1
    ·(go_simp; try with_reducible rfl)
    try simp only [Act.put, tA, tZ, tS]
   refine wpList_nil ?_
   go_upto_region 16 with fail
   refine wp_region_lit ?_
   refine wpList_valG (by kernel_rfl) (ex_load 43 (.tmp 4) rfl (w.heap.size + 1) 0 2 (ov 2 b) rfl Tryz.underlying43 rfl szObject T8.out.obj.at0) ?_
   try simp only [Act.put, tA, tZ, tS]
   refine wpList_unitG (by kernel_rfl) (ex_store 43 (.tmp 2) (.tmp 39) rfl w.heap.size 0 2 (ov 2 b) rfl rfl (T8.out.res.there 0 2 (by omega)) szObject (fun i _ => ov_one _ _ i)) ?_
   try simp only [Act.put, tA, tZ, tS]
   refine wpList_valS (v := ?_) (by kernel_rfl) ?_ ?_
   rotate_left 1
   ·(go_simp; try with_reducible rfl)
   try simp only [Act.put, tA, tZ, tS]
   refine wpList_nil ?_
   have B9 := T8.out.res.over (ov 2 b)
   have KZ := keep_setCells (b := w.heap.size) (arr 2 (ov 2 b)).toList 0 w8
   have G9 : Hid (Below w.heap.size w (w8.setCells w.heap.size 0 (arr 2 (ov 2 b)).toList)) := (T8.out.keep.trans (KZ.mono fun b hb _ => by omega)).below (Nat.le_refl _)
   clear T8 KZ
   generalize w8.setCells w.heap.size 0 (arr 2 (ov 2 b)).toList = w10 at B9 G9 ⊢
   go_wp2
   exact bodyPost_ret (results_blk2 rfl _ _ w.heap.size 43 2 (ov 2 b) B9 _ rfl Tryz.underlying43 rfl szObject) rfl ⟨fun k l h => (by
    obtain ⟨_, g1, g2⟩ := HRF.out.2 k l h
    rw [← g1, ← g2]; rfl), fun h => absurd ⟨_, _, HF.out⟩ h, G9.out⟩
  ·have NF : Hid (¬ isFrame (116 :: t)) := fun ⟨k, l, h⟩ => by
    obtain ⟨_, g1, g2⟩ := HRF.out.2 k l h
    exact hok (by rw [g1, g2]; exact h.1)
   rw [decide_eq_false hok] at HR
   clear hok
   refine wp_region_lit ?_
   refine wpList_valS (v := ?_) (by kernel_rfl) ?_ ?_
   rotate_left 1
   ·(go_simp; try with_reducible rfl)
   try simp only [Act.put, tA, tZ, tS]
   refine wpList_callG (by kernel_rfl) fun K hK => ?_
   go_simp
   refine (HE.out _ _ T5.out.rd).mono ?_
   rintro e w7 ⟨rfl, hB7⟩
   refine hK _ _ ?_
   clear hK K
   try simp only [Act.put, tA, tZ, tS]
   have T7 := Lib.hid (T5.out.below hB7)
   clear hB7 T5 HE
   iterate 2
    refine wpList_valS (v := ?_) (by kernel_rfl) ?_ ?_
    rotate_left 1
    ·(go_simp; try with_reducible rfl)
    try simp only [Act.put, tA, tZ, tS]
   refine wpList_valG (by kernel_rfl) (ex_load 43 (.tmp 4) rfl (w.heap.size + 1) 0 2 (ov 2 b) rfl Tryz.underlying43 rfl szObject T7.out.obj.at0) ?_
   try simp only [Act.put, tA, tZ, tS]
   refine wpList_callG (by kernel_rfl) fun K hK => ?_
   go_simp
   refine (HR.out _).mono ?_
   rintro e w8 ⟨rfl, hB8⟩
   refine hK _ _ ?_
   clear hK K
   try simp only [Act.put, tA, tZ, tS]
   have T8 := Lib.hid (T7.out.below hB8)
   clear hB8 T7 HR
   iterate 2
    refine wpList_valS (v := ?_) (by kernel_rfl) ?_ ?_
    rotate_left 1
    ·(go_simp; try with_reducible rfl)
    try simp only [Act.put, tA, tZ, tS]
   refine wpList_nil ?_
   go_upto_region 15 with fail
   refine wp_region_lit ?_
   refine wpList_valG (by kernel_rfl) (ex_build0 rfl (bd_zobj _)) ?_
   try simp only [Act.put, tA, tZ, tS]
   refine wpList_unitG (by kernel_rfl) (ex_store 43 (.tmp 2) (.tmp 38) rfl w.heap.size 0 2 (ov 0 []) rfl rfl (T8.out.res.there 0 2 (by omega)) szObject (fun i _ => ov_one _ _ i)) ?_
   try simp only [Act.put, tA, tZ, tS]
   refine wpList_valS (v := ?_) (by kernel_rfl) ?_ ?_
   rotate_left 1
   ·(go_simp; try with_reducible rfl)
   try simp only [Act.put, tA, tZ, tS]
   refine wpList_nil ?_
   have B9 := T8.out.res.over (ov 0 [])
   have KZ := keep_setCells (b := w.heap.size) (arr 2 (ov 0 [])).toList 0 w8
   have G9 : Hid (Below w.heap.size w (w8.setCells w.heap.size 0 (arr 2 (ov 0 [])).toList)) := (T8.out.keep.trans (KZ.mono fun b hb _ => by omega)).below (Nat.le_refl _)
   clear T8 KZ
   generalize w8.setCells w.heap.size 0 (arr 2 (ov 0 [])).toList = w10 at B9 G9 ⊢
   go_wp2
   exact bodyPost_ret (results_blk2 rfl _ _ w.heap.size 43 2 (ov 0 []) B9 _ rfl Tryz.underlying43 rfl szObject) rfl ⟨fun k l h => absurd ⟨k, l, h⟩ NF.out, fun _ => rfl, G9.out⟩
 ·have d0 : (q != 0) = true := by simpa using h0
  have NF : Hid (¬ isFrame (116 :: t)) := fun ⟨k, l, h⟩ => h0 (HRF.out.2 k l h).1
  clear h0
  refine wp_region_lit ?_
  refine wpList_valS (v := ?_) (by kernel_rfl) ?_ ?_
  rotate_left 1
  ·(go_simp; try with_reducible rfl)
  try simp only [Act.put, tA, tZ, tS]
  refine wpList_callG (by kernel_rfl) fun K hK => ?_
  go_simp
  refine (HE.out _ _ T5.out.rd).mono ?_
  rintro e w8 ⟨rfl, hB7⟩
  refine hK _ _ ?_
  clear hK K
  try simp only [Act.put, tA, tZ, tS]
  have T8 := Lib.hid (T5.out.below hB7)
  clear hB7 T5 HE
  iterate 2
   refine wpList_valS (v := ?_) (by kernel_rfl) ?_ ?_
   rotate_left 1
   ·(go_simp; try with_reducible rfl)
   try simp only [Act.put, tA, tZ, tS]
  refine wpList_skipG (by kernel_rfl) ?_
  try simp only [Act.put, tA, tZ, tS]
  refine wpList_skipG (by kernel_rfl) ?_
  try simp only [Act.put, tA, tZ, tS]
  refine wpList_skipG (by kernel_rfl) ?_
  try simp only [Act.put, tA, tZ, tS]
  refine wpList_valS (v := ?_) (by kernel_rfl) ?_ ?_
  rotate_left 1
  ·(go_simp; try with_reducible rfl)
  try simp only [Act.put, tA, tZ, tS]
  refine wpList_nil ?_
  go_upto_region 15 with fail
  refine wp_region_lit ?_
  refine wpList_valG (by kernel_rfl) (ex_build0 rfl (bd_zobj _)) ?_
  try simp only [Act.put, tA, tZ, tS]
  refine wpList_unitG (by kernel_rfl) (ex_store 43 (.tmp 2) (.tmp 38) rfl w.heap.size 0 2 (ov 0 []) rfl rfl (T8.out.res.there 0 2 (by omega)) szObject (fun i _ => ov_one _ _ i)) ?_
  try simp only [Act.put, tA, tZ, tS]
  refine wpList_valS (v := ?_) (by kernel_rfl) ?_ ?_
  rotate_left 1
  ·(go_simp; try with_reducible rfl)
  try simp only [Act.put, tA, tZ, tS]
  refine wpList_nil ?_
  have B9 := T8.out.res.over (ov 0 [])
  have KZ := keep_setCells (b := w.heap.size) (arr 2 (ov 0 [])).toList 0 w8
  have G9 : Hid (Below w.heap.size w (w8.setCells w.heap.size 0 (arr 2 (ov 0 [])).toList)) := (T8.out.keep.trans (KZ.mono fun b hb _ => by omega)).below (Nat.le_refl _)
  clear T8 KZ
  generalize w8.setCells w.heap.size 0 (arr 2 (ov 0 [])).toList = w10 at B9 G9 ⊢
  go_wp2
  exact bodyPost_ret (results_blk2 rfl _ _ w.heap.size 43 2 (ov 0 []) B9 _ rfl Tryz.underlying43 rfl szObject) rfl ⟨fun k l h => absurd ⟨k, l, h⟩ NF.out, fun _ => rfl, G9.out⟩
set_option maxHeartbeats 4000000 in
set_option maxRecDepth 100000 in
theorem qread_3 (t : List UInt8) (w : World) (hf : t.length ≤ 6000) :
  Calls Tryz.prog 32 #[.string (bs (99 :: t))] w fun e w' => (∀ k l, IsFrame (99 :: t) k l → e = .returned (.tuple #[.agg (arr 2 (ov k l)), .bool true])) ∧ (¬ isFrame (99 :: t) → e = .returned (.tuple #[.agg (arr 2 (ov 0 [])), .bool false])) ∧ Below w.heap.size w w' := by
 have T0 := Lib.hid (QP.start w)
 have T1 := Lib.hid T0.out.zero
 have ix : ∀ W : World, (Instr.index 9 (.string (bs (99 :: t))) (.int .i64 0)).run Tryz.prog W = .ok (.int .u8 99) W := fun W => idx_bs (99 :: t) 0 (by simp) W
 have hz := bs_size (99 :: t)
 rw [List.length_cons] at hz
 have ex : (bs (99 :: t)).extract 1 (bs (99 :: t)).size = bs t := by
  rw [bs_extract]
  congr 1
  rw [bs_size]
  simp
 obtain ⟨b, p2, e2, h2⟩ : ∃ b p2 e2, rText 4096 t 0 0 = (b, p2, e2) := ⟨_, _, _, rfl⟩
 have HRF := Lib.hid (qread_frame (c := 99) h2 (by decide))
 rw [show kix 99 = 3 by decide] at HRF
 have C1 : Hid (∀ W r, Rq W r t 0 0 → Calls Tryz.prog 51 #[.pointer (some ⟨r, 0, none⟩), .int .i64 4096] W fun u w' => u = .returned (.string (bs b)) ∧ Rq w' r t p2 e2 ∧ Keep (fun k => k ≠ r) W w') := fun W r h => by
  have := qtext_any 4096 h (Nat.zero_le _) (by omega)
  rw [h2] at this; exact this
 obtain ⟨q, hq⟩ : ∃ q, q = endOf t.length p2 e2 := ⟨_, rfl⟩
 have HE : Hid (∀ W r, Rq W r t p2 e2 → Calls Tryz.prog 52 #[.pointer (some ⟨r, 0, none⟩)] W fun u w' => u = .returned (.int .i64 q) ∧ Below W.heap.size W w') := fun W r h => by rw [hq]; exact qend_any h
 rw [← hq] at HRF
 have HR : Hid (∀ W, Calls Tryz.prog 53 #[.agg (arr 2 (ov 3 b))] W fun e w' => e = .returned (.bool (decide (objOk 3 b))) ∧ Below W.heap.size W w') := fun W => qright_any 3 b W
 have sz : ((bs (99 :: t)).size : Int) = (t.length : Int) + 1 := by omega
 have sz0 : (((bs (99 :: t)).size : Int) == 0) = false := by rw [beq_eq_false_iff_ne]; omega
 have sz1 : (1 : Int) ≤ ((bs (99 :: t)).size : Int) := by omega
 clear hq h2 hz hf
 generalize bs (99 :: t) = sb at ix ex sz sz0 sz1 ⊢
 obtain ⟨sd, hsd⟩ : ∃ sd, sd = bs t := ⟨_, rfl⟩
 have SD := Lib.hid hsd
 rw [← hsd] at ex
 clear hsd sz
 go_enter Tryz.func32, Tryz.ntmps32
 go_upto_region 4 with (first | (refine wpList_val rfl _ _ (ex_build0 rfl (bd_zobj _)) ?_) | (refine wpList_store_blk rfl 43 (.tmp 4) (.tmp 10) rfl (w.heap.size + 1) 2 (ov 0 []) (ov 0 []) rfl rfl 43 T0.out.obj szObject (fun i _ => ov_one _ _ i) ?_))
 change Code.wp Tryz.prog _ _ _ (((w.alloc (.cells (arr 2 (ov 0 [])) 43)).alloc (.cells (arr 2 (ov 0 [])) 43)).setRow (w.heap.size + 1) (arr 2 (ov 0 [])))
 generalize ((w.alloc (.cells (arr 2 (ov 0 [])) 43)).alloc (.cells (arr 2 (ov 0 [])) 43)).setRow (w.heap.size + 1) (arr 2 (ov 0 [])) = w1 at T1 ⊢
 clear T0
 have c0 : w1.cell? ⟨w.heap.size + 1, 0, none⟩ = some (.int .i64 0) := T1.out.obj.cell 0 (by omega)
 have f0 : w1.frozen? ⟨w.heap.size + 1, 0, none⟩ = false := T1.out.obj.frozen 0
 have T2 := Lib.hid (T1.out.kind (k' := 3))
 clear T1
 go_upto_region 12 with fail
 clear c0 f0 ix
 generalize w1.setCell ⟨w.heap.size + 1, 0, none⟩ (.int .i64 3) = w2 at T2 ⊢
 have z2 := T2.out.size
 have T3 : Hid (QO w t 3 [] 0 0 (w2.alloc (.cells #[.string sd, .int .i64 0, .int .i64 0] 108))) := by
  rw [SD.out]; exact T2.out.reader t
 clear T2
 go_upto_region 13 with fail
 clear ex
 go_wp2_with fail
 refine (C1.out _ _ T3.out.rd).mono ?_
 rintro e w4 ⟨rfl, R4, K4⟩
 have T4 := Lib.hid (T3.out.call R4 K4)
 have c1 : w4.cell? ⟨w.heap.size + 1, 1, none⟩ = some (.string (bs [])) := T4.out.obj.cell 1 (by omega)
 have f1 : w4.frozen? ⟨w.heap.size + 1, 1, none⟩ = false := T4.out.obj.frozen 1
 have T5 := Lib.hid (T4.out.body (b' := b))
 clear R4 K4 T3 T4 C1
 generalize bs [] = sb0 at c1
 go_upto_region 14 with fail
 clear c1 f1
 generalize w4.setCell ⟨w.heap.size + 1, 1, none⟩ (.string (bs b)) = w5 at T5 ⊢
 by_cases h0 : q = 0
 ·subst h0
  by_cases hok : objOk 3 b
  ·have HF := Lib.hid (HRF.out.1 rfl hok)
   rw [decide_eq_true hok] at HR
   clear hok
   refine wp_region_lit ?_
   refine wpList_valS (v := ?_) (by kernel_rfl) ?_ ?_
   rotate_left 1
   ·(go_simp; try with_reducible rfl)
   try simp only [Act.put, tA, tZ, tS]
   refine wpList_callG (by kernel_rfl) fun K hK => ?_
   go_simp
   refine (HE.out _ _ T5.out.rd).mono ?_
   rintro e w7 ⟨rfl, hB7⟩
   refine hK _ _ ?_
   clear hK K
   try simp only [Act.put, tA, tZ, tS]
   have T7 := Lib.hid (T5.out.below hB7)
   clear hB7 T5 HE
   iterate 2
    refine wpList_valS (v := ?_) (by kernel_rfl) ?_ ?_
    rotate_left 1
    ·(go_simp; try with_reducible rfl)
    try simp only [Act.put, tA, tZ, tS]
   refine wpList_valG (by kernel_rfl) (ex_load 43 (.tmp 4) rfl (w.heap.size + 1) 0 2 (ov 3 b) rfl Tryz.underlying43 rfl szObject T7.out.obj.at0) ?_
   try simp only [Act.put, tA, tZ, tS]
   refine wpList_callG (by kernel_rfl) fun K hK => ?_
   go_simp
   refine (HR.out _).mono ?_
   rintro e w8 ⟨rfl, hB8⟩
   refine hK _ _ ?_
   clear hK K
   try simp only [Act.put, tA, tZ, tS]
   have T8 := Lib.hid (T7.out.below hB8)
   clear hB8 T7 HR
   iterate 2
    refine wpList_valS (v := ?_) (by kernel_rfl) ?_ ?_
    rotate_left 1
    ·(go_simp; try with_reducible rfl)
    try simp only [Act.put, tA, tZ, tS]
   refine wpList_nil ?_
   go_upto_region 16 with fail
   refine wp_region_lit ?_
   refine wpList_valG (by kernel_rfl) (ex_load 43 (.tmp 4) rfl (w.heap.size + 1) 0 2 (ov 3 b) rfl Tryz.underlying43 rfl szObject T8.out.obj.at0) ?_
   try simp only [Act.put, tA, tZ, tS]
   refine wpList_unitG (by kernel_rfl) (ex_store 43 (.tmp 2) (.tmp 39) rfl w.heap.size 0 2 (ov 3 b) rfl rfl (T8.out.res.there 0 2 (by omega)) szObject (fun i _ => ov_one _ _ i)) ?_
   try simp only [Act.put, tA, tZ, tS]
   refine wpList_valS (v := ?_) (by kernel_rfl) ?_ ?_
   rotate_left 1
   ·(go_simp; try with_reducible rfl)
   try simp only [Act.put, tA, tZ, tS]
   refine wpList_nil ?_
   have B9 := T8.out.res.over (ov 3 b)
   have KZ := keep_setCells (b := w.heap.size) (arr 2 (ov 3 b)).toList 0 w8
   have G9 : Hid (Below w.heap.size w (w8.setCells w.heap.size 0 (arr 2 (ov 3 b)).toList)) := (T8.out.keep.trans (KZ.mono fun b hb _ => by omega)).below (Nat.le_refl _)
   clear T8 KZ
   generalize w8.setCells w.heap.size 0 (arr 2 (ov 3 b)).toList = w10 at B9 G9 ⊢
   go_wp2
   exact bodyPost_ret (results_blk2 rfl _ _ w.heap.size 43 2 (ov 3 b) B9 _ rfl Tryz.underlying43 rfl szObject) rfl ⟨fun k l h => (by
    obtain ⟨_, g1, g2⟩ := HRF.out.2 k l h
    rw [← g1, ← g2]; rfl), fun h => absurd ⟨_, _, HF.out⟩ h, G9.out⟩
  ·have NF : Hid (¬ isFrame (99 :: t)) := fun ⟨k, l, h⟩ => by
    obtain ⟨_, g1, g2⟩ := HRF.out.2 k l h
    exact hok (by rw [g1, g2]; exact h.1)
   rw [decide_eq_false hok] at HR
   clear hok
   refine wp_region_lit ?_
   refine wpList_valS (v := ?_) (by kernel_rfl) ?_ ?_
   rotate_left 1
   ·(go_simp; try with_reducible rfl)
   try simp only [Act.put, tA, tZ, tS]
   refine wpList_callG (by kernel_rfl) fun K hK => ?_
   go_simp
   refine (HE.out _ _ T5.out.rd).mono ?_
   rintro e w7 ⟨rfl, hB7⟩
   refine hK _ _ ?_
   clear hK K
   try simp only [Act.put, tA, tZ, tS]
   have T7 := Lib.hid (T5.out.below hB7)
   clear hB7 T5 HE
   iterate 2
    refine wpList_valS (v := ?_) (by kernel_rfl) ?_ ?_
    rotate_left 1
    ·(go_simp; try with_reducible rfl)
    try simp only [Act.put, tA, tZ, tS]
   refine wpList_valG (by kernel_rfl) (ex_load 43 (.tmp 4) rfl (w.heap.size + 1) 0 2 (ov 3 b) rfl Tryz.underlying43 rfl szObject T7.out.obj.at0) ?_
   try simp only [Act.put, tA, tZ, tS]
   refine wpList_callG (by kernel_rfl) fun K hK => ?_
   go_simp
   refine (HR.out _).mono ?_
   rintro e w8 ⟨rfl, hB8⟩
   refine hK _ _ ?_
   clear hK K
   try simp only [Act.put, tA, tZ, tS]
   have T8 := Lib.hid (T7.out.below hB8)
   clear hB8 T7 HR
   iterate 2
    refine wpList_valS (v := ?_) (by kernel_rfl) ?_ ?_
    rotate_left 1
    ·(go_simp; try with_reducible rfl)
    try simp only [Act.put, tA, tZ, tS]
   refine wpList_nil ?_
   go_upto_region 15 with fail
   refine wp_region_lit ?_
   refine wpList_valG (by kernel_rfl) (ex_build0 rfl (bd_zobj _)) ?_
   try simp only [Act.put, tA, tZ, tS]
   refine wpList_unitG (by kernel_rfl) (ex_store 43 (.tmp 2) (.tmp 38) rfl w.heap.size 0 2 (ov 0 []) rfl rfl (T8.out.res.there 0 2 (by omega)) szObject (fun i _ => ov_one _ _ i)) ?_
   try simp only [Act.put, tA, tZ, tS]
   refine wpList_valS (v := ?_) (by kernel_rfl) ?_ ?_
   rotate_left 1
   ·(go_simp; try with_reducible rfl)
   try simp only [Act.put, tA, tZ, tS]
   refine wpList_nil ?_
   have B9 := T8.out.res.over (ov 0 [])
   have KZ := keep_setCells (b := w.heap.size) (arr 2 (ov 0 [])).toList 0 w8
   have G9 : Hid (Below w.heap.size w (w8.setCells w.heap.size 0 (arr 2 (ov 0 [])).toList)) := (T8.out.keep.trans (KZ.mono fun b hb _ => by omega)).below (Nat.le_refl _)
   clear T8 KZ
   generalize w8.setCells w.heap.size 0 (arr 2 (ov 0 [])).toList = w10 at B9 G9 ⊢
   go_wp2
   exact bodyPost_ret (results_blk2 rfl _ _ w.heap.size 43 2 (ov 0 []) B9 _ rfl Tryz.underlying43 rfl szObject) rfl ⟨fun k l h => absurd ⟨k, l, h⟩ NF.out, fun _ => rfl, G9.out⟩
 ·have d0 : (q != 0) = true := by simpa using h0
  have NF : Hid (¬ isFrame (99 :: t)) := fun ⟨k, l, h⟩ => h0 (HRF.out.2 k l h).1
  clear h0
  refine wp_region_lit ?_
  refine wpList_valS (v := ?_) (by kernel_rfl) ?_ ?_
  rotate_left 1
  ·(go_simp; try with_reducible rfl)
  try simp only [Act.put, tA, tZ, tS]
  refine wpList_callG (by kernel_rfl) fun K hK => ?_
  go_simp
  refine (HE.out _ _ T5.out.rd).mono ?_
  rintro e w8 ⟨rfl, hB7⟩
  refine hK _ _ ?_
  clear hK K
  try simp only [Act.put, tA, tZ, tS]
  have T8 := Lib.hid (T5.out.below hB7)
  clear hB7 T5 HE
  iterate 2
   refine wpList_valS (v := ?_) (by kernel_rfl) ?_ ?_
   rotate_left 1
   ·(go_simp; try with_reducible rfl)
   try simp only [Act.put, tA, tZ, tS]
  refine wpList_skipG (by kernel_rfl) ?_
  try simp only [Act.put, tA, tZ, tS]
  refine wpList_skipG (by kernel_rfl) ?_
  try simp only [Act.put, tA, tZ, tS]
  refine wpList_skipG (by kernel_rfl) ?_
  try simp only [Act.put, tA, tZ, tS]
  refine wpList_valS (v := ?_) (by kernel_rfl) ?_ ?_
  rotate_left 1
  ·(go_simp; try with_reducible rfl)
  try simp only [Act.put, tA, tZ, tS]
  refine wpList_nil ?_
  go_upto_region 15 with fail
  refine wp_region_lit ?_
  refine wpList_valG (by kernel_rfl) (ex_build0 rfl (bd_zobj _)) ?_
  try simp only [Act.put, tA, tZ, tS]
  refine wpList_unitG (by kernel_rfl) (ex_store 43 (.tmp 2) (.tmp 38) rfl w.heap.size 0 2 (ov 0 []) rfl rfl (T8.out.res.there 0 2 (by omega)) szObject (fun i _ => ov_one _ _ i)) ?_
  try simp only [Act.put, tA, tZ, tS]
  refine wpList_valS (v := ?_) (by kernel_rfl) ?_ ?_
  rotate_left 1
  ·(go_simp; try with_reducible rfl)
  try simp only [Act.put, tA, tZ, tS]
  refine wpList_nil ?_
  have B9 := T8.out.res.over (ov 0 [])
  have KZ := keep_setCells (b := w.heap.size) (arr 2 (ov 0 [])).toList 0 w8
  have G9 : Hid (Below w.heap.size w (w8.setCells w.heap.size 0 (arr 2 (ov 0 [])).toList)) := (T8.out.keep.trans (KZ.mono fun b hb _ => by omega)).below (Nat.le_refl _)
  clear T8 KZ
  generalize w8.setCells w.heap.size 0 (arr 2 (ov 0 [])).toList = w10 at B9 G9 ⊢
  go_wp2
  exact bodyPost_ret (results_blk2 rfl _ _ w.heap.size 43 2 (ov 0 []) B9 _ rfl Tryz.underlying43 rfl szObject) rfl ⟨fun k l h => absurd ⟨k, l, h⟩ NF.out, fun _ => rfl, G9.out⟩
set_option maxHeartbeats 4000000 in
set_option maxRecDepth 100000 in
theorem qread_nil (w : World) : Calls Tryz.prog 32 #[.string (bs [])] w fun e w' => e = .returned (.tuple #[.agg (arr 2 (ov 0 [])), .bool false]) ∧ Below w.heap.size w w' := by
 have BZ := Lib.hid (Blk.newAt _ (heap_alloc_new w (.cells (arr 2 (ov 0 [])) 43)) rfl : Blk (w.alloc (.cells (arr 2 (ov 0 [])) 43)) w.heap.size 43 2 (ov 0 []))
 have L0 : Hid (Below w.heap.size w ((w.alloc (.cells (arr 2 (ov 0 [])) 43)).setCells w.heap.size 0 (arr 2 (ov 0 [])).toList)) :=
  (((Keep.refl (fun b => b < w.heap.size) w).alloc _).trans ((keep_setCells (b := w.heap.size) _ 0 _).mono fun b hb _ => by omega)).below (Nat.le_refl _)
 have sz : ((bs []).size : Int) = 0 := rfl
 generalize bs [] = sb at sz ⊢
 go_enter Tryz.func32, Tryz.ntmps32
 go_upto_region 2 with fail
 change Code.wp Tryz.prog _ _ _ (w.alloc (.cells (arr 2 (ov 0 [])) 43))
 refine wp_region_lit ?_
 refine wpList_valG (by kernel_rfl) (ex_build0 rfl (bd_zobj _)) ?_
 try simp only [Act.put, tA, tZ, tS]
 refine wpList_unitG (by kernel_rfl) (ex_store 43 (.tmp 2) (.tmp 9) rfl w.heap.size 0 2 (ov 0 []) rfl rfl (BZ.out.there 0 2 (by omega)) szObject (fun i _ => ov_one _ _ i)) ?_
 try simp only [Act.put, tA, tZ, tS]
 refine wpList_valS (v := ?_) (by kernel_rfl) ?_ ?_
 rotate_left 1
 ·(go_simp; try with_reducible rfl)
 try simp only [Act.put, tA, tZ, tS]
 refine wpList_nil ?_
 have B9 := BZ.out.over (ov 0 [])
 generalize (w.alloc (.cells (arr 2 (ov 0 [])) 43)).setCells w.heap.size 0 (arr 2 (ov 0 [])).toList = w10 at B9 L0 ⊢
 go_wp2
 exact bodyPost_ret (results_blk2 rfl _ _ w.heap.size 43 2 (ov 0 []) B9 _ rfl Tryz.underlying43 rfl szObject) rfl ⟨rfl, L0.out⟩
set_option maxHeartbeats 4000000 in
set_option maxRecDepth 100000 in
theorem qread_other (c : UInt8) (t : List UInt8) (w : World) (hf : t.length ≤ 6000) (h1 : c ≠ 98) (h2 : c ≠ 116) (h3 : c ≠ 99) : Calls Tryz.prog 32 #[.string (bs (c :: t))] w fun e w' => e = .returned (.tuple #[.agg (arr 2 (ov 0 [])), .bool false]) ∧ Below w.heap.size w w' := by
 have T0 := Lib.hid (QP.start w)
 have T1 := Lib.hid T0.out.zero
 have hz := bs_size (c :: t)
 rw [List.length_cons] at hz
 obtain ⟨x, hx⟩ : ∃ x, x = c.toNat := ⟨_, rfl⟩
 have ix : ∀ W : World, (Instr.index 9 (.string (bs (c :: t))) (.int .i64 0)).run Tryz.prog W = .ok (.int .u8 (x : Int)) W := fun W => by rw [hx]; exact idx_bs (c :: t) 0 (by simp) W
 have e1 : ((x : Int) == 98) = false := by rw [beq_eq_false_iff_ne]; intro h; exact h1 (UInt8.toNat_inj.1 (by rw [← hx]; show x = 98; omega))
 have e2 : ((x : Int) == 116) = false := by rw [beq_eq_false_iff_ne]; intro h; exact h2 (UInt8.toNat_inj.1 (by rw [← hx]; show x = 116; omega))
 have e3 : ((x : Int) == 99) = false := by rw [beq_eq_false_iff_ne]; intro h; exact h3 (UInt8.toNat_inj.1 (by rw [← hx]; show x = 99; omega))
 have sz0 : (((bs (c :: t)).size : Int) == 0) = false := by rw [beq_eq_false_iff_ne]; omega
 clear hz hx h1 h2 h3 hf
 generalize bs (c :: t) = sb at ix sz0 ⊢
 go_enter Tryz.func32, Tryz.ntmps32
 go_upto_region 4 with (first | (refine wpList_val rfl _ _ (ex_build0 rfl (bd_zobj _)) ?_) | (refine wpList_store_blk rfl 43 (.tmp 4) (.tmp 10) rfl (w.heap.size + 1) 2 (ov 0 []) (ov 0 []) rfl rfl 43 T0.out.obj szObject (fun i _ => ov_one _ _ i) ?_))
 change Code.wp Tryz.prog _ _ _ (((w.alloc (.cells (arr 2 (ov 0 [])) 43)).alloc (.cells (arr 2 (ov 0 [])) 43)).setRow (w.heap.size + 1) (arr 2 (ov 0 [])))
 generalize ((w.alloc (.cells (arr 2 (ov 0 [])) 43)).alloc (.cells (arr 2 (ov 0 [])) 43)).setRow (w.heap.size + 1) (arr 2 (ov 0 [])) = w8 at T1 ⊢
 clear T0
 have T8 := T1
 clear T1
 go_upto_region 5 with fail
 refine wp_region_lit ?_
 refine wpList_valG (by kernel_rfl) (ex_build0 rfl (bd_zobj _)) ?_
 try simp only [Act.put, tA, tZ, tS]
 refine wpList_unitG (by kernel_rfl) (ex_store 43 (.tmp 2) (.tmp 13) rfl w.heap.size 0 2 (ov 0 []) rfl rfl (T8.out.res.there 0 2 (by omega)) szObject (fun i _ => ov_one _ _ i)) ?_
 try simp only [Act.put, tA, tZ, tS]
 refine wpList_valS (v := ?_) (by kernel_rfl) ?_ ?_
 rotate_left 1
 ·(go_simp; try with_reducible rfl)
 try simp only [Act.put, tA, tZ, tS]
 refine wpList_nil ?_
 have B9 := T8.out.res.over (ov 0 [])
 have KZ := keep_setCells (b := w.heap.size) (arr 2 (ov 0 [])).toList 0 w8
 have G9 : Hid (Below w.heap.size w (w8.setCells w.heap.size 0 (arr 2 (ov 0 [])).toList)) := (T8.out.keep.trans (KZ.mono fun b hb _ => by omega)).below (Nat.le_refl _)
 clear T8 KZ
 generalize w8.setCells w.heap.size 0 (arr 2 (ov 0 [])).toList = w10 at B9 G9 ⊢
 go_wp2
 exact bodyPost_ret (results_blk2 rfl _ _ w.heap.size 43 2 (ov 0 []) B9 _ rfl Tryz.underlying43 rfl szObject) rfl ⟨rfl, G9.out⟩
theorem qread_any (f : List UInt8) (w : World) (hf : f.length ≤ 6000) :
  Calls Tryz.prog 32 #[.string (bs f)] w fun e w' => (∀ k l, IsFrame f k l → e = .returned (.tuple #[.agg (arr 2 (ov k l)), .bool true])) ∧ (¬ isFrame f → e = .returned (.tuple #[.agg (arr 2 (ov 0 [])), .bool false])) ∧ Below w.heap.size w w' := by
 cases f with
 | nil => exact (qread_nil w).mono fun e w' h => ⟨fun k l g => absurd ⟨k, l, g⟩ no_frame_nil, fun _ => h.1, h.2⟩
 | cons c t =>
  rw [List.length_cons] at hf
  by_cases h1 : c = 98
  ·subst h1; exact qread_1 t w (by omega)
  ·by_cases h2 : c = 116
   ·subst h2; exact qread_2 t w (by omega)
   ·by_cases h3 : c = 99
    ·subst h3; exact qread_3 t w (by omega)
    ·refine (qread_other c t w (by omega) h1 h2 h3).mono fun e w' h => ⟨fun k l g => absurd ⟨k, l, g⟩ (no_frame_kix ?_), fun _ => h.1, h.2⟩
     unfold kix
     rw [if_neg h1, if_neg h2, if_neg h3]
end Go.Proofs.YtnmjcpoobabjgaaGreatDoor
