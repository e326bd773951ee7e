import Derived.Test.YtlbclfponongbaaGreatDoorQ4m
/- The document's answer: the commit of a body. -/
namespace Go.Proofs.YtlbclfponongbaaGreatDoor
open Go.RowKit Classical
def zc : Nat → Value := cv (fun _ => 0) (.slice none 0 0) []
theorem bd_zcom (w : World) : (Instr.build 37 #[]).run Tryz.prog w = .ok (.agg (arr 34 zc)) w := by kernel_rfl
theorem zc_one (i : Nat) : (zc i).oneCell' = true := cv_one (fun _ => 0) (.slice none 0 0) rfl [] i
theorem owns_one {w : World} {B e m n : Nat} {v : Value} {xs : List Value} (h : w.ownsRow B e m v n xs) : v.oneCell' = true := by
  rcases h.2 with ⟨rfl, _⟩ | ⟨g, cap, cur, rfl, _⟩ <;> rfl
/- the three blocks of the call's own: what it answers (N), the reader (N + 1), the commit (N + 2) -/
structure QC (w0 : World) (l : List UInt8) (t : Nat → UInt8) (ps : Nat → Nat → UInt8) (k : Nat) (v : Value) (s : List UInt8) (p : Nat) (e : Int) (w : World) : Prop where
  keep : Keep (fun b => b < w0.heap.size) w0 w
  res : Blk w w0.heap.size 37 34 zc
  rd : Rq w (w0.heap.size + 1) l p e
  com : Blk w (w0.heap.size + 1 + 1) 37 34 (cv t v s)
  row : w.ownsRow (w0.heap.size + 3) 29 32 v k (arr (k * 32) (pc ps)).toList
  size : w0.heap.size + 3 ≤ w.heap.size
theorem QC.below {w0 w w' : World} {l : List UInt8} {t : Nat → UInt8} {ps : Nat → Nat → UInt8} {k : Nat} {v : Value} {s : List UInt8} {p : Nat} {e : Int} (h : QC w0 l t ps k v s p e w) (hb : Below w.heap.size w w') : QC w0 l t ps k v s p e w' :=
  ⟨h.keep.trans (Keep.all hb), h.res.below hb h.res.lt, h.rd.keep (K := fun _ => True) (Keep.all hb) trivial, h.com.below hb h.com.lt, owns_all h.row hb, Nat.le_trans h.size hb.size⟩
theorem QC.grown {w0 w : World} {l : List UInt8} {t : Nat → UInt8} {ps : Nat → Nat → UInt8} {k : Nat} {v : Value} {s : List UInt8} {p : Nat} {e : Int} (h : QC w0 l t ps k v s p e w) : Below w0.heap.size w0 w := h.keep.below (Nat.le_refl _)
theorem QC.call {w0 w w' : World} {l : List UInt8} {t : Nat → UInt8} {ps : Nat → Nat → UInt8} {k : Nat} {v : Value} {s : List UInt8} {p p' : Nat} {e e' : Int} (h : QC w0 l t ps k v s p e w) (g : Rq w' (w0.heap.size + 1) l p' e') (kk : Keep (fun k => k ≠ w0.heap.size + 1) w w') : QC w0 l t ps k v s p' e' w' :=
  ⟨h.keep.trans (kk.mono fun b hb _ => by omega), kk.blk (by omega) h.res, g, kk.blk (by omega) h.com, owns_keep h.row kk fun g hg => by have := (own_lt h.row hg).1; omega, Nat.le_trans h.size kk.size⟩
theorem QC.drew {w0 w : World} {l : List UInt8} {t : Nat → UInt8} {ps : Nat → Nat → UInt8} {k : Nat} {v : Value} {s : List UInt8} {p : Nat} {e : Int} (h : QC w0 l t ps k v s p e w) : QC w0 l t ps k v s p e w.drew := h.below (Below.refl _ _).drew
theorem cv_tree (t t' : Nat → UInt8) (pv : Value) (s : List UInt8) (j : Nat) : (if 0 ≤ j ∧ j < 0 + (arr 32 (bv t')).toList.length then (arr 32 (bv t')).toList.getD (j - 0) undef else cv t pv s j) = cv t' pv s j := by
  rw [Array.length_toList, arr_size]
  by_cases c : j < 32
  · rw [if_pos ⟨by omega, by omega⟩, List.getD_eq_getElem?_getD, Array.getElem?_toList, arr_get _ _ _ (by omega)]
    unfold cv
    rw [if_pos c]
    rfl
  · rw [if_neg (by omega)]
    unfold cv
    rw [if_neg c, if_neg c]
theorem cv_par (t : Nat → UInt8) (pv pv' : Value) (s : List UInt8) (j : Nat) : (if j = 32 then pv' else cv t pv s j) = cv t pv' s j := by
  unfold cv
  by_cases c : j = 32
  · subst c; rfl
  · rw [if_neg c]
    by_cases d : j < 32
    · rw [if_pos d, if_pos d]
    · rw [if_neg d, if_neg d, if_neg c, if_neg c]
theorem cv_text (t : Nat → UInt8) (pv : Value) (s s' : List UInt8) (j : Nat) (hj : j < 34) : (if j = 33 then .string (bs s') else cv t pv s j) = cv t pv s' j := by
  unfold cv
  by_cases c : j = 33
  · subst c; rfl
  · rw [if_neg c]
    by_cases d : j < 32
    · rw [if_pos d, if_pos d]
    · rw [if_neg d, if_neg d, if_pos (by omega), if_pos (by omega)]
/- the tree, the text, a parent more -/
theorem QC.tree {w0 w : World} {l : List UInt8} {t t' : Nat → UInt8} {ps : Nat → Nat → UInt8} {k : Nat} {v : Value} {s : List UInt8} {p : Nat} {e : Int} (h : QC w0 l t ps k v s p e w) : QC w0 l t' ps k v s p e (w.setCells (w0.heap.size + 1 + 1) 0 (arr 32 (bv t')).toList) := by
  have KZ := keep_setCells (b := w0.heap.size + 1 + 1) (arr 32 (bv t')).toList 0 w
  exact ⟨h.keep.trans (KZ.mono fun b hb _ => by omega), KZ.blk (by omega) h.res, h.rd.keep KZ (by omega), (Blk.setCells (arr 32 (bv t')).toList 0 w _ h.com).congr fun j _ => cv_tree _ _ _ _ _, owns_keep h.row KZ fun g hg => by have := (own_lt h.row hg).1; omega, Nat.le_trans h.size KZ.size⟩
theorem QC.text {w0 w : World} {l : List UInt8} {t : Nat → UInt8} {ps : Nat → Nat → UInt8} {k : Nat} {v : Value} {s s' : List UInt8} {p : Nat} {e : Int} (h : QC w0 l t ps k v s p e w) : QC w0 l t ps k v s' p e (w.setCell ⟨w0.heap.size + 1 + 1, 33, none⟩ (.string (bs s'))) := by
  have KZ : Keep (fun b => b ≠ w0.heap.size + 1 + 1) w (w.setCell ⟨w0.heap.size + 1 + 1, 33, none⟩ (.string (bs s'))) := (Keep.refl _ w).setCell (fun hh => hh rfl) _
  exact ⟨h.keep.trans (KZ.mono fun b hb _ => by omega), KZ.blk (by omega) h.res, h.rd.keep KZ (by omega), (h.com.set 33 _).congr fun j hj => cv_text _ _ _ _ _ hj, owns_keep h.row KZ fun g hg => by have := (own_lt h.row hg).1; omega, Nat.le_trans h.size KZ.size⟩
theorem QC.next {w0 w5 w6 : World} {l : List UInt8} {t : Nat → UInt8} {ps : Nat → Nat → UInt8} {k g cap : Nat} {v : Value} {s : List UInt8} {p : Nat} {e : Int} {x : Nat → UInt8} (h : QC w0 l t ps k v s p e w5)
    (ho : w6.ownsRow (w0.heap.size + 3) 29 32 (.slice (some ⟨g, 0, none⟩) (k + 1) cap) (k + 1) (arr ((k + 1) * 32) (pc (upI ps k x))).toList) (k6 : Keep (fun k => v.ownBlock ≠ some k) w5 w6) :
    w6.cell? ⟨w0.heap.size + 1 + 1, 32, none⟩ = some v ∧ w6.frozen? ⟨w0.heap.size + 1 + 1, 32, none⟩ = false ∧ QC w0 l t (upI ps k x) (k + 1) (.slice (some ⟨g, 0, none⟩) (k + 1) cap) s p e (w6.setCell ⟨w0.heap.size + 1 + 1, 32, none⟩ (.slice (some ⟨g, 0, none⟩) (k + 1) cap)) := by
  have own : ∀ b, b < w0.heap.size + 3 → v.ownBlock ≠ some b := fun b hb h2 => by have := (own_lt h.row h2).1; omega
  have hg := (own_lt ho (g := g) rfl).1
  have B6 : Blk w6 (w0.heap.size + 1 + 1) 37 34 (cv t v s) := k6.blk (own _ (by omega)) h.com
  have KZ : Keep (fun b => b ≠ w0.heap.size + 1 + 1) w6 (w6.setCell ⟨w0.heap.size + 1 + 1, 32, none⟩ (.slice (some ⟨g, 0, none⟩) (k + 1) cap)) := (Keep.refl _ w6).setCell (fun hh => hh rfl) _
  refine ⟨B6.cell 32 (by omega), B6.frozen 32, ⟨?_, ?_, ?_, ?_, ?_, ?_⟩⟩
  · exact (h.keep.trans (k6.mono fun b hb _ => own b (by omega))).trans (KZ.mono fun b hb _ => by omega)
  · exact KZ.blk (by omega) (k6.blk (own _ (by omega)) h.res)
  · exact (h.rd.keep k6 (own _ (by omega))).keep KZ (by omega)
  · exact (B6.set 32 _).congr fun j _ => cv_par _ _ _ _ _
  · exact owns_keep ho KZ fun g' hg' => by simp [Value.ownBlock] at hg'; omega
  · exact Nat.le_trans (Nat.le_trans h.size k6.size) KZ.size
theorem QC.zero {w0 w : World} {l : List UInt8} {ps : Nat → Nat → UInt8} {k : Nat} {v : Value} {p : Nat} {e : Int} (h : QC w0 l (fun _ => 0) ps k v [] p e w) (hv : v = .slice none 0 0) : QC w0 l (fun _ => 0) ps k v [] p e (w.setRow (w0.heap.size + 1 + 1) (arr 34 zc)) := by
  have KZ : Keep (fun b => b ≠ w0.heap.size + 1 + 1) w (w.setRow (w0.heap.size + 1 + 1) (arr 34 zc)) := (Keep.refl _ w).setRow (fun hh => hh rfl) _
  subst hv
  exact ⟨h.keep.trans (KZ.mono fun b hb _ => by omega), KZ.blk (by omega) h.res, h.rd.keep KZ (by omega), h.com.setRow zc, owns_keep h.row KZ fun g hg => by have := (own_lt h.row hg).1; omega, Nat.le_trans h.size KZ.size⟩
set_option maxHeartbeats 4000000 in
set_option maxRecDepth 100000 in
theorem qcommit_any (l : List UInt8) (w : World) (hl : l.length ≤ 1000000) :
    Calls Tryz.prog 19 #[.string (bs l)] w fun e w' => ∃ c v, e = .returned (.tuple #[.agg (arr 34 (cv c.tree v c.text)), .bool (decide (isCom l))]) ∧ Row w' v 32 (pc c.par) c.n ∧ (isCom l → IsCom l c) ∧ Fresh w.heap.size v ∧ Below w.heap.size w w' := by
  obtain ⟨s0, p0, e0, h0⟩ : ∃ s0 p0 e0, rRaw 32 l 0 0 = (s0, p0, e0) := ⟨_, _, _, rfl⟩
  obtain ⟨n, p1, e1, h1⟩ : ∃ n p1 e1, rNum 4 l p0 e0 = (n, p1, e1) := ⟨_, _, _, rfl⟩
  have l0 : p0 ≤ l.length := by have := rRaw_le 32 l 0 0 (Nat.zero_le _); rw [h0] at this; exact this
  have C0 : Hid (∀ W r, Rq W r l 0 0 → Calls Tryz.prog 32 #[.pointer (some ⟨r, 0, none⟩)] W fun u w' => u = .returned (.agg (arr 32 (bv (idOf s0)))) ∧ Rq w' r l p0 e0 ∧ Keep (fun k => k ≠ r) W w') := fun W r h => by
    have := qid_any h (Nat.zero_le _) (by omega)
    rw [h0] at this; exact this
  have C1 : Hid (∀ W r, Rq W r l p0 e0 → Calls Tryz.prog 30 #[.pointer (some ⟨r, 0, none⟩), .int .i64 4] W fun u w' => u = .returned (.int .i64 n) ∧ Rq w' r l p1 e1 ∧ Keep (fun k => k ≠ r) W w') := fun W r h => by
    have := qnum_any 4 h l0 (by omega)
    rw [h1] at this; exact this
  have I0 := Lib.hid (CI.start h0 h1)
  have HL : Hid (l.length ≤ 1000000) := hl
  obtain ⟨sb, hsb⟩ : ∃ sb, sb = bs l := ⟨_, rfl⟩
  have SB := Lib.hid hsb
  have T0 : Hid (QC w l (fun _ => 0) (fun _ _ => 0) 0 (.slice none 0 0) [] 0 0 (((w.alloc (.cells (arr 34 zc) 37)).alloc (.cells #[.string sb, .int .i64 0, .int .i64 0] 74)).alloc (.cells (arr 34 zc) 37))) := by
    have z1 : (w.alloc (.cells (arr 34 zc) 37)).heap.size = w.heap.size + 1 := by simp
    have z2 : ((w.alloc (.cells (arr 34 zc) 37)).alloc (.cells #[.string sb, .int .i64 0, .int .i64 0] 74)).heap.size = w.heap.size + 1 + 1 := by simp
    have b2 : Blk (((w.alloc (.cells (arr 34 zc) 37)).alloc (.cells #[.string sb, .int .i64 0, .int .i64 0] 74)).alloc (.cells (arr 34 zc) 37)) (w.heap.size + 1 + 1) 37 34 zc := by
      rw [← z2]; exact Blk.newAt _ (heap_alloc_new _ _) rfl
    refine ⟨(((Keep.refl _ w).alloc _).alloc _).alloc _, ((Blk.newAt _ (heap_alloc_new w _) rfl : Blk (w.alloc (.cells (arr 34 zc) 37)) w.heap.size 37 34 zc).alloc _).alloc _, ?_, b2, by rw [Nat.zero_mul]; exact World.ownsRow_nil _ _ _ _, by simp⟩
    have r1 : Rq ((w.alloc (.cells (arr 34 zc) 37)).alloc (.cells #[.string sb, .int .i64 0, .int .i64 0] 74)) (w.heap.size + 1) l 0 0 := by
      rw [← z1, hsb]; exact heap_alloc_new _ _
    exact r1.keep ((Keep.refl (fun _ => True) _).alloc _) trivial
  rw [← hsb]
  clear h0 h1 l0 hsb hl
  go_enter Tryz.func19, Tryz.ntmps19
  have T1 := Lib.hid (T0.out.zero rfl)
  go_upto_region 3 with (first | (refine wpList_val rfl _ _ (ex_build (t := 37) (parts := #[]) rfl rfl (bd_zcom _)) ?_) | (refine wpList_store_blk rfl 37 (.tmp 5) (.tmp 11) rfl (w.heap.size + 1 + 1) 34 zc zc rfl rfl 37 T0.out.com szCommit (fun i _ => zc_one i) ?_))
  change Code.wp Tryz.prog _ _ _ ((((w.alloc (.cells (arr 34 zc) 37)).alloc (.cells #[.string sb, .int .i64 0, .int .i64 0] 74)).alloc (.cells (arr 34 zc) 37)).setRow (w.heap.size + 1 + 1) (arr 34 zc))
  generalize (((w.alloc (.cells (arr 34 zc) 37)).alloc (.cells #[.string sb, .int .i64 0, .int .i64 0] 74)).alloc (.cells (arr 34 zc) 37)).setRow (w.heap.size + 1 + 1) (arr 34 zc) = w1 at T1 ⊢
  clear T0
  refine wp_region_lit ?_
  refine wpList_valS (v := ?_) (by kernel_rfl) ?_ ?_
  rotate_left 1
  · (go_simp; try with_reducible rfl)
  try simp only [Act.put, List.setIfInBounds_toArray, List.set_cons_zero, List.set_cons_succ]
  refine wpList_callG (by kernel_rfl) fun K hK => ?_
  go_simp
  refine (C0.out _ _ T1.out.rd).mono ?_
  rintro e w2 ⟨rfl, R2, K2⟩
  refine hK _ _ ?_
  clear hK K
  try simp only [Act.put, List.setIfInBounds_toArray, List.set_cons_zero, List.set_cons_succ]
  have T2 := Lib.hid (T1.out.call R2 K2)
  clear R2 K2 T1 C0
  refine wpList_valG (by kernel_rfl) (ex_field fC0 (.tmp 5) rfl (w.heap.size + 1 + 1) 0 rfl) ?_
  try simp only [Act.put, List.setIfInBounds_toArray, List.set_cons_zero, List.set_cons_succ]
  refine wpList_unitG (by kernel_rfl) (ex_store 29 (.tmp 14) (.tmp 13) rfl (w.heap.size + 1 + 1) 0 32 (bv (idOf s0)) rfl rfl (T2.out.com.there 0 32 (by omega)) sz30 (fun _ _ => rfl)) ?_
  try simp only [Act.put, List.setIfInBounds_toArray, List.set_cons_zero, List.set_cons_succ]
  have T3 := Lib.hid (T2.out.tree (t' := idOf s0))
  clear T2
  generalize w2.setCells (w.heap.size + 1 + 1) 0 (arr 32 (bv (idOf s0))).toList = w3 at T3 ⊢
  refine wpList_nil ?_
  go_wp2_with fail
  refine (C1.out _ _ T3.out.rd).mono ?_
  rintro e w4 ⟨rfl, R4, K4⟩
  have T4 := Lib.hid (T3.out.call R4 K4)
  clear R4 K4 T3 C1
  have N4 : Hid (n ≤ 4) := I0.out.four
  go_wp2
  go_loopw [7] (fun i wr => ∃ k ps v p e, k ≤ n ∧ i = .int .i64 (k : Nat) ∧ Hid (QC w l (idOf s0) ps k v [] p e wr) ∧ Hid (CI l (idOf s0) n ps k p e)) (fun i _ => n - (intOf i).toNat)
  case atStart => exact ⟨0, _, _, _, _, Nat.zero_le _, rfl, T4, I0⟩
  case round =>
    obtain ⟨k, ps, v, p, e, hk, rfl, hS, hI⟩ := hrel
    clear T4 I0
    have hl := HL.out
    by_cases hlt : k < n
    · obtain ⟨s3, p3, e3, h3⟩ : ∃ s3 p3 e3, rRaw 32 l p e = (s3, p3, e3) := ⟨_, _, _, rfl⟩
      have I2 := Lib.hid (hI.out.step hlt h3)
      have C5 : Hid (∀ W r, Rq W r l p e → Calls Tryz.prog 32 #[.pointer (some ⟨r, 0, none⟩)] W fun u w' => u = .returned (.agg (arr 32 (bv (idOf s3)))) ∧ Rq w' r l p3 e3 ∧ Keep (fun k => k ≠ r) W w') := fun W r h => by
        have := qid_any h hI.out.le (by omega)
        rw [h3] at this; exact this
      have zk : (0 : Int) ≤ (k : Int) := by omega
      have yk : (k : Int) < (n : Int) := by omega
      have HLT := Lib.hid hlt
      have SD := Lib.hid hS.out.drew
      have c0 : wr.drew.cell? ⟨w.heap.size + 1 + 1, 32, none⟩ = some v := SD.out.com.cell 32 (by omega)
      have FEW : Hid (k + 1 ≤ 100000) := by show k + 1 ≤ 100000; have := N4.out; omega
      clear h3 hlt hS hI hl
      go_upto_region 8 with fail
      refine wp_region_noPanic ?_
      refine wp_region_held_drew (S := (fun _ => True)) (by kernel_rfl) trivial (fun hHeld => ?_)
      refine wpAnyH_take (i := 0) (oi := { dst := some 22, op := Op.fieldAddr 37 (Operand.tmp 5) 1, type := 0, pos := "ref.go:93", after := #[], guard := none }) (v := ?_) rfl (by kernel_rfl) (by kernel_rfl) (by kernel_rfl) (fun _ _ _ h => h) (Or.inl ⟨by kernel_rfl, ?_⟩) (by assumption) ?_
      rotate_left 1
      · (intro wS hSw; (try dsimp only at hSw); go_simp; try with_reducible rfl)
      try simp only [Act.put, List.setIfInBounds_toArray, List.set_cons_zero, List.set_cons_succ]
      refine wpAnyH_take (i := 2) (oi := { dst := some 24, op := Op.move (Operand.tmp 4), type := 72, pos := "ref.go:93", after := #[], guard := none }) (v := ?_) rfl (by kernel_rfl) (by kernel_rfl) (by kernel_rfl) (fun _ _ _ h => h) (Or.inl ⟨by kernel_rfl, ?_⟩) (by assumption) ?_
      rotate_left 1
      · (intro wS hSw; (try dsimp only at hSw); go_simp; try with_reducible rfl)
      try simp only [Act.put, List.setIfInBounds_toArray, List.set_cons_zero, List.set_cons_succ]
      refine wpAnyH_ready (rs := [1, 3]) (by kernel_rfl) (by simp) ?_
      refine AllReadyH.cons (o := { dst := some 23, op := Op.load 35 (Operand.tmp 22), type := 35, pos := "ref.go:93", after := #[{ on := 0, ground := Ground.data }], guard := none }) rfl (fun K hK => ?_) (AllReadyH.cons (o := { dst := some 25, op := Op.call { callee := Callee.value (Operand.func 32), args := #[Operand.tmp 24], argTypes := #[72] }, type := 29, pos := "ref.go:93", after := #[{ on := 2, ground := Ground.data }], guard := none }) rfl (fun K hK => ?_) AllReadyH.nil)
      · skip
        go_simp
        refine hK.out _ _ (trivial) (fun _ => ?_)
        clear hK K
        try simp only [Act.put, List.setIfInBounds_toArray, List.set_cons_zero, List.set_cons_succ]
        refine wpAnyH_ready (rs := [3]) (by kernel_rfl) (by simp) ?_
        refine AllReadyH.cons (o := { dst := some 25, op := Op.call { callee := Callee.value (Operand.func 32), args := #[Operand.tmp 24], argTypes := #[72] }, type := 29, pos := "ref.go:93", after := #[{ on := 2, ground := Ground.data }], guard := none }) rfl (fun K hK => ?_) AllReadyH.nil
        go_simp
        refine (C5.out wr.drew _ SD.out.rd).mono ?_
        rintro e w5 ⟨rfl, R5, K5⟩
        refine hK.out _ _ (trivial) (fun _ => ?_)
        clear hK K
        try simp only [Act.put, List.setIfInBounds_toArray, List.set_cons_zero, List.set_cons_succ]
        have S5 := Lib.hid (SD.out.call R5 K5)
        clear R5 K5
        refine wpAnyH_ready (rs := [4]) (by kernel_rfl) (by simp) ?_
        refine AllReadyH.cons (o := { dst := some 26, op := Op.buildSlice 35 1 #[(0, Operand.tmp 25)], type := 35, pos := "ref.go:93", after := #[{ on := 3, ground := Ground.data }], guard := none }) rfl (fun K hK => ?_) AllReadyH.nil
        refine step_val rfl _ _ (ex_bslice 35 29 (.tmp 25) rfl 32 (bv (idOf s3)) rfl tIds zId (by decide) (by decide)) ?_
        refine hK.out _ _ (trivial) (fun _ => ?_)
        clear hK K
        try simp only [Act.put, List.setIfInBounds_toArray, List.set_cons_zero, List.set_cons_succ]
        obtain ⟨g, cap, w6, hap, ho6, k6, hat⟩ := app_own tIds iId (arr_size 32 _) (by decide) (by decide) (arr 32 (bv (idOf s3))) (arr_congr fun j hj => (by rw [pc_at _ _ _ hj, upI_same] : bv (idOf s3) j = pc (upI ps k (idOf s3)) (k * 32 + j))) (fun j => rfl) (owns_congr S5.out.row (by rw [pc_up])) S5.out.size FEW.out
        have N := Lib.hid (QC.next S5.out ho6 k6)
        have c6 := N.out.1
        have f6 := N.out.2.1
        clear ho6 k6 hat
        refine wpAnyH_ready (rs := [5]) (by kernel_rfl) (by simp) ?_
        refine AllReadyH.cons (o := { dst := some 27, op := Op.call { callee := Callee.builtin Builtin.append, args := #[Operand.tmp 23, Operand.tmp 26], argTypes := #[35, 35] }, type := 35, pos := "ref.go:93", after := #[{ on := 1, ground := Ground.data }, { on := 4, ground := Ground.data }, { on := 3, ground := Ground.chain }], guard := none }) rfl (fun K hK => ?_) AllReadyH.nil
        refine step_append_run rfl (.tmp 23) (.tmp 26) 35 35 rfl v _ _ w6 rfl rfl hap ?_
        refine hK.out _ _ (trivial) (fun _ => ?_)
        clear hK K
        try simp only [Act.put, List.setIfInBounds_toArray, List.set_cons_zero, List.set_cons_succ]
        clear hap
        refine wpAnyH_take (i := 6) (oi := { dst := some 28, op := Op.fieldAddr 37 (Operand.tmp 5) 1, type := 0, pos := "ref.go:93", after := #[{ on := 0, ground := Ground.phase }, { on := 1, ground := Ground.phase }, { on := 2, ground := Ground.phase }, { on := 3, ground := Ground.phase }, { on := 4, ground := Ground.phase }, { on := 5, ground := Ground.phase }], guard := none }) (v := ?_) rfl (by kernel_rfl) (by kernel_rfl) (by kernel_rfl) (fun _ _ _ h => h) (Or.inl ⟨by kernel_rfl, ?_⟩) (by assumption) ?_
        rotate_left 1
        · (intro wS hSw; (try dsimp only at hSw); go_simp; try with_reducible rfl)
        try simp only [Act.put, List.setIfInBounds_toArray, List.set_cons_zero, List.set_cons_succ]
        refine wpAnyH_ready (rs := [7]) (by kernel_rfl) (by simp) ?_
        refine AllReadyH.cons (o := { dst := none, op := Op.store 35 (Operand.tmp 28) (Operand.tmp 27), type := 0, pos := "ref.go:93", after := #[{ on := 6, ground := Ground.data }, { on := 5, ground := Ground.data }, { on := 5, ground := Ground.chain }, { on := 0, ground := Ground.phase }, { on := 1, ground := Ground.phase }, { on := 2, ground := Ground.phase }, { on := 3, ground := Ground.phase }, { on := 4, ground := Ground.phase }, { on := 5, ground := Ground.phase }], guard := none }) rfl (fun K hK => ?_) AllReadyH.nil
        go_simp
        refine hK.out _ _ (trivial) (fun _ => ?_)
        clear hK K
        try simp only [Act.put, List.setIfInBounds_toArray, List.set_cons_zero, List.set_cons_succ]
        refine wpAnyH_done (by kernel_rfl) ?_ _
        refine NoPanic.normal ?_
        have F := Lib.hid N.out.2.2
        clear N c6 f6
        generalize w6.setCell ⟨w.heap.size + 1 + 1, 32, none⟩ (.slice (some ⟨g, 0, none⟩) (k + 1) cap) = w7 at F ⊢
        have n4 := N4.out
        go_wp2
        go_roundw
        case rel => exact ⟨k + 1, _, _, _, _, HLT.out, by go_num, F, I2⟩
        case measure => simp [intOf]; omega
      · skip
        go_simp
        refine (C5.out wr.drew _ SD.out.rd).mono ?_
        rintro e w5 ⟨rfl, R5, K5⟩
        refine hK.out _ _ (trivial) (fun _ => ?_)
        clear hK K
        try simp only [Act.put, List.setIfInBounds_toArray, List.set_cons_zero, List.set_cons_succ]
        have S5 := Lib.hid (SD.out.call R5 K5)
        have c5 : w5.cell? ⟨w.heap.size + 1 + 1, 32, none⟩ = some v := S5.out.com.cell 32 (by omega)
        clear R5 K5
        refine wpAnyH_ready (rs := [1, 4]) (by kernel_rfl) (by simp) ?_
        refine AllReadyH.cons (o := { dst := some 23, op := Op.load 35 (Operand.tmp 22), type := 35, pos := "ref.go:93", after := #[{ on := 0, ground := Ground.data }], guard := none }) rfl (fun K hK => ?_) (AllReadyH.cons (o := { dst := some 26, op := Op.buildSlice 35 1 #[(0, Operand.tmp 25)], type := 35, pos := "ref.go:93", after := #[{ on := 3, ground := Ground.data }], guard := none }) rfl (fun K hK => ?_) AllReadyH.nil)
        · skip
          go_simp
          refine hK.out _ _ (trivial) (fun _ => ?_)
          clear hK K
          try simp only [Act.put, List.setIfInBounds_toArray, List.set_cons_zero, List.set_cons_succ]
          refine wpAnyH_ready (rs := [4]) (by kernel_rfl) (by simp) ?_
          refine AllReadyH.cons (o := { dst := some 26, op := Op.buildSlice 35 1 #[(0, Operand.tmp 25)], type := 35, pos := "ref.go:93", after := #[{ on := 3, ground := Ground.data }], guard := none }) rfl (fun K hK => ?_) AllReadyH.nil
          refine step_val rfl _ _ (ex_bslice 35 29 (.tmp 25) rfl 32 (bv (idOf s3)) rfl tIds zId (by decide) (by decide)) ?_
          refine hK.out _ _ (trivial) (fun _ => ?_)
          clear hK K
          try simp only [Act.put, List.setIfInBounds_toArray, List.set_cons_zero, List.set_cons_succ]
          obtain ⟨g, cap, w6, hap, ho6, k6, hat⟩ := app_own tIds iId (arr_size 32 _) (by decide) (by decide) (arr 32 (bv (idOf s3))) (arr_congr fun j hj => (by rw [pc_at _ _ _ hj, upI_same] : bv (idOf s3) j = pc (upI ps k (idOf s3)) (k * 32 + j))) (fun j => rfl) (owns_congr S5.out.row (by rw [pc_up])) S5.out.size FEW.out
          have N := Lib.hid (QC.next S5.out ho6 k6)
          have c6 := N.out.1
          have f6 := N.out.2.1
          clear ho6 k6 hat
          refine wpAnyH_ready (rs := [5]) (by kernel_rfl) (by simp) ?_
          refine AllReadyH.cons (o := { dst := some 27, op := Op.call { callee := Callee.builtin Builtin.append, args := #[Operand.tmp 23, Operand.tmp 26], argTypes := #[35, 35] }, type := 35, pos := "ref.go:93", after := #[{ on := 1, ground := Ground.data }, { on := 4, ground := Ground.data }, { on := 3, ground := Ground.chain }], guard := none }) rfl (fun K hK => ?_) AllReadyH.nil
          refine step_append_run rfl (.tmp 23) (.tmp 26) 35 35 rfl v _ _ w6 rfl rfl hap ?_
          refine hK.out _ _ (trivial) (fun _ => ?_)
          clear hK K
          try simp only [Act.put, List.setIfInBounds_toArray, List.set_cons_zero, List.set_cons_succ]
          clear hap
          refine wpAnyH_take (i := 6) (oi := { dst := some 28, op := Op.fieldAddr 37 (Operand.tmp 5) 1, type := 0, pos := "ref.go:93", after := #[{ on := 0, ground := Ground.phase }, { on := 1, ground := Ground.phase }, { on := 2, ground := Ground.phase }, { on := 3, ground := Ground.phase }, { on := 4, ground := Ground.phase }, { on := 5, ground := Ground.phase }], guard := none }) (v := ?_) rfl (by kernel_rfl) (by kernel_rfl) (by kernel_rfl) (fun _ _ _ h => h) (Or.inl ⟨by kernel_rfl, ?_⟩) (by assumption) ?_
          rotate_left 1
          · (intro wS hSw; (try dsimp only at hSw); go_simp; try with_reducible rfl)
          try simp only [Act.put, List.setIfInBounds_toArray, List.set_cons_zero, List.set_cons_succ]
          refine wpAnyH_ready (rs := [7]) (by kernel_rfl) (by simp) ?_
          refine AllReadyH.cons (o := { dst := none, op := Op.store 35 (Operand.tmp 28) (Operand.tmp 27), type := 0, pos := "ref.go:93", after := #[{ on := 6, ground := Ground.data }, { on := 5, ground := Ground.data }, { on := 5, ground := Ground.chain }, { on := 0, ground := Ground.phase }, { on := 1, ground := Ground.phase }, { on := 2, ground := Ground.phase }, { on := 3, ground := Ground.phase }, { on := 4, ground := Ground.phase }, { on := 5, ground := Ground.phase }], guard := none }) rfl (fun K hK => ?_) AllReadyH.nil
          go_simp
          refine hK.out _ _ (trivial) (fun _ => ?_)
          clear hK K
          try simp only [Act.put, List.setIfInBounds_toArray, List.set_cons_zero, List.set_cons_succ]
          refine wpAnyH_done (by kernel_rfl) ?_ _
          refine NoPanic.normal ?_
          have F := Lib.hid N.out.2.2
          clear N c6 f6
          generalize w6.setCell ⟨w.heap.size + 1 + 1, 32, none⟩ (.slice (some ⟨g, 0, none⟩) (k + 1) cap) = w7 at F ⊢
          have n4 := N4.out
          go_wp2
          go_roundw
          case rel => exact ⟨k + 1, _, _, _, _, HLT.out, by go_num, F, I2⟩
          case measure => simp [intOf]; omega
        · skip
          refine step_val rfl _ _ (ex_bslice 35 29 (.tmp 25) rfl 32 (bv (idOf s3)) rfl tIds zId (by decide) (by decide)) ?_
          refine hK.out _ _ (trivial) (fun _ => ?_)
          clear hK K
          try simp only [Act.put, List.setIfInBounds_toArray, List.set_cons_zero, List.set_cons_succ]
          have c5b : (w5.alloc (.cells (arr 32 (bv (idOf s3))) 29)).cell? ⟨w.heap.size + 1 + 1, 32, none⟩ = some v := by rw [((Below.refl w5.heap.size w5).alloc (Nat.le_refl _) _).cell (by have := block_lt_of_cell c5; exact this)]; exact c5
          refine wpAnyH_ready (rs := [1]) (by kernel_rfl) (by simp) ?_
          refine AllReadyH.cons (o := { dst := some 23, op := Op.load 35 (Operand.tmp 22), type := 35, pos := "ref.go:93", after := #[{ on := 0, ground := Ground.data }], guard := none }) rfl (fun K hK => ?_) AllReadyH.nil
          go_simp
          refine hK.out _ _ (trivial) (fun _ => ?_)
          clear hK K
          try simp only [Act.put, List.setIfInBounds_toArray, List.set_cons_zero, List.set_cons_succ]
          obtain ⟨g, cap, w6, hap, ho6, k6, hat⟩ := app_own tIds iId (arr_size 32 _) (by decide) (by decide) (arr 32 (bv (idOf s3))) (arr_congr fun j hj => (by rw [pc_at _ _ _ hj, upI_same] : bv (idOf s3) j = pc (upI ps k (idOf s3)) (k * 32 + j))) (fun j => rfl) (owns_congr S5.out.row (by rw [pc_up])) S5.out.size FEW.out
          have N := Lib.hid (QC.next S5.out ho6 k6)
          have c6 := N.out.1
          have f6 := N.out.2.1
          clear ho6 k6 hat
          refine wpAnyH_ready (rs := [5]) (by kernel_rfl) (by simp) ?_
          refine AllReadyH.cons (o := { dst := some 27, op := Op.call { callee := Callee.builtin Builtin.append, args := #[Operand.tmp 23, Operand.tmp 26], argTypes := #[35, 35] }, type := 35, pos := "ref.go:93", after := #[{ on := 1, ground := Ground.data }, { on := 4, ground := Ground.data }, { on := 3, ground := Ground.chain }], guard := none }) rfl (fun K hK => ?_) AllReadyH.nil
          refine step_append_run rfl (.tmp 23) (.tmp 26) 35 35 rfl v _ _ w6 rfl rfl hap ?_
          refine hK.out _ _ (trivial) (fun _ => ?_)
          clear hK K
          try simp only [Act.put, List.setIfInBounds_toArray, List.set_cons_zero, List.set_cons_succ]
          clear hap
          refine wpAnyH_take (i := 6) (oi := { dst := some 28, op := Op.fieldAddr 37 (Operand.tmp 5) 1, type := 0, pos := "ref.go:93", after := #[{ on := 0, ground := Ground.phase }, { on := 1, ground := Ground.phase }, { on := 2, ground := Ground.phase }, { on := 3, ground := Ground.phase }, { on := 4, ground := Ground.phase }, { on := 5, ground := Ground.phase }], guard := none }) (v := ?_) rfl (by kernel_rfl) (by kernel_rfl) (by kernel_rfl) (fun _ _ _ h => h) (Or.inl ⟨by kernel_rfl, ?_⟩) (by assumption) ?_
          rotate_left 1
          · (intro wS hSw; (try dsimp only at hSw); go_simp; try with_reducible rfl)
          try simp only [Act.put, List.setIfInBounds_toArray, List.set_cons_zero, List.set_cons_succ]
          refine wpAnyH_ready (rs := [7]) (by kernel_rfl) (by simp) ?_
          refine AllReadyH.cons (o := { dst := none, op := Op.store 35 (Operand.tmp 28) (Operand.tmp 27), type := 0, pos := "ref.go:93", after := #[{ on := 6, ground := Ground.data }, { on := 5, ground := Ground.data }, { on := 5, ground := Ground.chain }, { on := 0, ground := Ground.phase }, { on := 1, ground := Ground.phase }, { on := 2, ground := Ground.phase }, { on := 3, ground := Ground.phase }, { on := 4, ground := Ground.phase }, { on := 5, ground := Ground.phase }], guard := none }) rfl (fun K hK => ?_) AllReadyH.nil
          go_simp
          refine hK.out _ _ (trivial) (fun _ => ?_)
          clear hK K
          try simp only [Act.put, List.setIfInBounds_toArray, List.set_cons_zero, List.set_cons_succ]
          refine wpAnyH_done (by kernel_rfl) ?_ _
          refine NoPanic.normal ?_
          have F := Lib.hid N.out.2.2
          clear N c6 f6
          generalize w6.setCell ⟨w.heap.size + 1 + 1, 32, none⟩ (.slice (some ⟨g, 0, none⟩) (k + 1) cap) = w7 at F ⊢
          have n4 := N4.out
          go_wp2
          go_roundw
          case rel => exact ⟨k + 1, _, _, _, _, HLT.out, by go_num, F, I2⟩
          case measure => simp [intOf]; omega
    · have ek : k = n := by omega
      subst ek
      have yk : (k : Int) ≤ (k : Int) := by omega
      obtain ⟨s4, p4, e4, h4⟩ : ∃ s4 p4 e4, rText 64 l p e = (s4, p4, e4) := ⟨_, _, _, rfl⟩
      have C6 : Hid (∀ W r, Rq W r l p e → Calls Tryz.prog 31 #[.pointer (some ⟨r, 0, none⟩), .int .i64 64] W fun u w' => u = .returned (.string (bs s4)) ∧ Rq w' r l p4 e4 ∧ Keep (fun k => k ≠ r) W w') := fun W r h => by
        have := qtext_any 64 h hI.out.le (by omega)
        rw [h4] at this; exact this
      have CE := Lib.hid (hI.out.end h4)
      obtain ⟨q, hq⟩ : ∃ q, q = endOf l.length p4 e4 := ⟨_, rfl⟩
      have HE2 : Hid (∀ W r, Rq W r l p4 e4 → Calls Tryz.prog 33 #[.pointer (some ⟨r, 0, none⟩)] W fun u w' => u = .returned (.int .i64 q) ∧ Below W.heap.size W w') := fun W r h => by rw [hq]; exact qend_any h
      rw [← hq] at CE
      clear h4 hlt hq hI hl
      go_wp2_with fail
      refine (C6.out _ _ hS.out.rd).mono ?_
      rintro e5 w5 ⟨rfl, R5, K5⟩
      have S5 := Lib.hid (hS.out.call R5 K5)
      have c34 : w5.cell? ⟨w.heap.size + 1 + 1, 33, none⟩ = some (.string (bs [])) := S5.out.com.cell 33 (by omega)
      have f34 : w5.frozen? ⟨w.heap.size + 1 + 1, 33, none⟩ = false := S5.out.com.frozen 33
      have T6 := Lib.hid (S5.out.text (s' := s4))
      clear R5 K5 hS C6 S5
      generalize bs [] = sb0 at c34
      go_upto_region 10 with fail
      clear c34 f34
      generalize w5.setCell ⟨w.heap.size + 1 + 1, 33, none⟩ (.string (bs s4)) = w6 at T6 ⊢
      by_cases h0 : q = 0
      · subst h0
        have CC := Lib.hid (fun (W : World) (h : Row W v 32 (pc ps) k) => qcom_any (idOf s0) ps k s4 v W h (by have := N4.out; omega))
        by_cases ht : isCom l
        · have hok : comOk ⟨idOf s0, k, ps, s4⟩ := (CE.out.1.2 ht).2
          have IT := Lib.hid (CE.out.2 rfl hok)
          have HT := Lib.hid ht
          have HCB := Lib.hid (fun (W : World) (h : Row W v 32 (pc ps) k) => combody_any (idOf s0) ps k s4 v W h hok.1 hok.2.1)
          rw [← IT.out.2, ← SB.out] at HCB
          rw [decide_eq_true hok] at CC
          clear ht hok CE
          refine wp_region_lit ?_
          refine wpList_valS (v := ?_) (by kernel_rfl) ?_ ?_
          rotate_left 1
          · (go_simp; try with_reducible rfl)
          try simp only [Act.put, List.setIfInBounds_toArray, List.set_cons_zero, List.set_cons_succ]
          refine wpList_callG (by kernel_rfl) fun K hK => ?_
          go_simp
          refine (HE2.out _ _ T6.out.rd).mono ?_
          rintro e w7 ⟨rfl, hB7⟩
          refine hK _ _ ?_
          clear hK K
          try simp only [Act.put, List.setIfInBounds_toArray, List.set_cons_zero, List.set_cons_succ]
          have T7 := Lib.hid (T6.out.below hB7)
          clear hB7 T6 HE2
          refine wpList_valS (v := ?_) (by kernel_rfl) ?_ ?_
          rotate_left 1
          · (go_simp; try with_reducible rfl)
          try simp only [Act.put, List.setIfInBounds_toArray, List.set_cons_zero, List.set_cons_succ]
          refine wpList_valS (v := ?_) (by kernel_rfl) ?_ ?_
          rotate_left 1
          · (go_simp; try with_reducible rfl)
          try simp only [Act.put, List.setIfInBounds_toArray, List.set_cons_zero, List.set_cons_succ]
          refine wpList_valG (by kernel_rfl) (ex_load 37 (.tmp 5) rfl (w.heap.size + 1 + 1) 0 34 (cv (idOf s0) v s4) rfl Tryz.underlying37 rfl szCommit T7.out.com.at0) ?_
          try simp only [Act.put, List.setIfInBounds_toArray, List.set_cons_zero, List.set_cons_succ]
          refine wpList_callG (by kernel_rfl) fun K hK => ?_
          go_simp
          refine (CC.out _ (owns_row T7.out.row)).mono ?_
          rintro e w8 ⟨rfl, hB8⟩
          refine hK _ _ ?_
          clear hK K
          try simp only [Act.put, List.setIfInBounds_toArray, List.set_cons_zero, List.set_cons_succ]
          have T8 := Lib.hid (T7.out.below hB8)
          clear hB8 T7 CC
          refine wpList_valS (v := ?_) (by kernel_rfl) ?_ ?_
          rotate_left 1
          · (go_simp; try with_reducible rfl)
          try simp only [Act.put, List.setIfInBounds_toArray, List.set_cons_zero, List.set_cons_succ]
          refine wpList_valS (v := ?_) (by kernel_rfl) ?_ ?_
          rotate_left 1
          · (go_simp; try with_reducible rfl)
          try simp only [Act.put, List.setIfInBounds_toArray, List.set_cons_zero, List.set_cons_succ]
          refine wpList_valS (v := ?_) (by kernel_rfl) ?_ ?_
          rotate_left 1
          · (go_simp; try with_reducible rfl)
          try simp only [Act.put, List.setIfInBounds_toArray, List.set_cons_zero, List.set_cons_succ]
          refine wpList_valG (by kernel_rfl) (ex_load 37 (.tmp 5) rfl (w.heap.size + 1 + 1) 0 34 (cv (idOf s0) v s4) rfl Tryz.underlying37 rfl szCommit T8.out.com.at0) ?_
          try simp only [Act.put, List.setIfInBounds_toArray, List.set_cons_zero, List.set_cons_succ]
          refine wpList_callG (by kernel_rfl) fun K hK => ?_
          go_simp
          refine (HCB.out _ (owns_row T8.out.row)).mono ?_
          rintro e w9 ⟨rfl, hB9⟩
          refine hK _ _ ?_
          clear hK K
          try simp only [Act.put, List.setIfInBounds_toArray, List.set_cons_zero, List.set_cons_succ]
          have T9 := Lib.hid (T8.out.below hB9)
          clear hB9 T8 HCB
          refine wpList_valS (v := ?_) (by kernel_rfl) ?_ ?_
          rotate_left 1
          · (go_simp; try with_reducible rfl)
          try simp only [Act.put, List.setIfInBounds_toArray, List.set_cons_zero, List.set_cons_succ]
          refine wpList_valS (v := ?_) (by kernel_rfl) ?_ ?_
          rotate_left 1
          · (go_simp; try with_reducible rfl)
          try simp only [Act.put, List.setIfInBounds_toArray, List.set_cons_zero, List.set_cons_succ]
          refine wpList_valS (v := ?_) (by kernel_rfl) ?_ ?_
          rotate_left 1
          · (go_simp; try with_reducible rfl)
          try simp only [Act.put, List.setIfInBounds_toArray, List.set_cons_zero, List.set_cons_succ]
          refine wpList_nil ?_
          go_upto_region 12 with fail
          refine wp_region_lit ?_
          refine wpList_valG (by kernel_rfl) (ex_load 37 (.tmp 5) rfl (w.heap.size + 1 + 1) 0 34 (cv (idOf s0) v s4) rfl Tryz.underlying37 rfl szCommit T9.out.com.at0) ?_
          try simp only [Act.put, List.setIfInBounds_toArray, List.set_cons_zero, List.set_cons_succ]
          refine wpList_unitG (by kernel_rfl) (ex_store 37 (.tmp 2) (.tmp 47) rfl w.heap.size 0 34 (cv (idOf s0) v s4) rfl rfl (T9.out.res.there 0 34 (by omega)) szCommit (fun i _ => cv_one _ _ (owns_one T9.out.row) _ i)) ?_
          try simp only [Act.put, List.setIfInBounds_toArray, List.set_cons_zero, List.set_cons_succ]
          refine wpList_valS (v := ?_) (by kernel_rfl) ?_ ?_
          rotate_left 1
          · (go_simp; try with_reducible rfl)
          try simp only [Act.put, List.setIfInBounds_toArray, List.set_cons_zero, List.set_cons_succ]
          refine wpList_nil ?_
          have B9 := T9.out.res.over (cv (idOf s0) v s4)
          have KZ := keep_setCells (b := w.heap.size) (arr 34 (cv (idOf s0) v s4)).toList 0 w9
          have G9 : Hid (Below w.heap.size w (w9.setCells w.heap.size 0 (arr 34 (cv (idOf s0) v s4)).toList)) := (T9.out.keep.trans (KZ.mono fun b hb _ => by omega)).below (Nat.le_refl _)
          have R9 : Hid ((w9.setCells w.heap.size 0 (arr 34 (cv (idOf s0) v s4)).toList).ownsRow (w.heap.size + 3) 29 32 v k (arr (k * 32) (pc ps)).toList) := owns_keep T9.out.row KZ fun g hg => by have := (own_lt T9.out.row hg).1; omega
          clear T9 KZ
          generalize w9.setCells w.heap.size 0 (arr 34 (cv (idOf s0) v s4)).toList = w10 at B9 G9 R9 ⊢
          go_wp2
          exact bodyPost_ret (results_blk2 rfl _ _ w.heap.size 37 34 (cv (idOf s0) v s4) B9 _ rfl Tryz.underlying37 rfl szCommit) rfl ⟨⟨idOf s0, k, ps, s4⟩, v, by rw [decide_eq_true HT.out]; rfl, owns_row R9.out, fun _ => IT.out, fun g o a b h => by have := owns_fresh R9.out g o a b h; omega, G9.out⟩
        · have hok : ¬ comOk ⟨idOf s0, k, ps, s4⟩ := fun h => ht (CE.out.1.1 ⟨rfl, h⟩)
          have HT := Lib.hid ht
          rw [decide_eq_false hok] at CC
          clear ht hok CE
          refine wp_region_lit ?_
          refine wpList_valS (v := ?_) (by kernel_rfl) ?_ ?_
          rotate_left 1
          · (go_simp; try with_reducible rfl)
          try simp only [Act.put, List.setIfInBounds_toArray, List.set_cons_zero, List.set_cons_succ]
          refine wpList_callG (by kernel_rfl) fun K hK => ?_
          go_simp
          refine (HE2.out _ _ T6.out.rd).mono ?_
          rintro e w7 ⟨rfl, hB7⟩
          refine hK _ _ ?_
          clear hK K
          try simp only [Act.put, List.setIfInBounds_toArray, List.set_cons_zero, List.set_cons_succ]
          have T7 := Lib.hid (T6.out.below hB7)
          clear hB7 T6 HE2
          refine wpList_valS (v := ?_) (by kernel_rfl) ?_ ?_
          rotate_left 1
          · (go_simp; try with_reducible rfl)
          try simp only [Act.put, List.setIfInBounds_toArray, List.set_cons_zero, List.set_cons_succ]
          refine wpList_valS (v := ?_) (by kernel_rfl) ?_ ?_
          rotate_left 1
          · (go_simp; try with_reducible rfl)
          try simp only [Act.put, List.setIfInBounds_toArray, List.set_cons_zero, List.set_cons_succ]
          refine wpList_valG (by kernel_rfl) (ex_load 37 (.tmp 5) rfl (w.heap.size + 1 + 1) 0 34 (cv (idOf s0) v s4) rfl Tryz.underlying37 rfl szCommit T7.out.com.at0) ?_
          try simp only [Act.put, List.setIfInBounds_toArray, List.set_cons_zero, List.set_cons_succ]
          refine wpList_callG (by kernel_rfl) fun K hK => ?_
          go_simp
          refine (CC.out _ (owns_row T7.out.row)).mono ?_
          rintro e w8 ⟨rfl, hB8⟩
          refine hK _ _ ?_
          clear hK K
          try simp only [Act.put, List.setIfInBounds_toArray, List.set_cons_zero, List.set_cons_succ]
          have T8 := Lib.hid (T7.out.below hB8)
          clear hB8 T7 CC
          refine wpList_valS (v := ?_) (by kernel_rfl) ?_ ?_
          rotate_left 1
          · (go_simp; try with_reducible rfl)
          try simp only [Act.put, List.setIfInBounds_toArray, List.set_cons_zero, List.set_cons_succ]
          refine wpList_valS (v := ?_) (by kernel_rfl) ?_ ?_
          rotate_left 1
          · (go_simp; try with_reducible rfl)
          try simp only [Act.put, List.setIfInBounds_toArray, List.set_cons_zero, List.set_cons_succ]
          refine wpList_valS (v := ?_) (by kernel_rfl) ?_ ?_
          rotate_left 1
          · (go_simp; try with_reducible rfl)
          try simp only [Act.put, List.setIfInBounds_toArray, List.set_cons_zero, List.set_cons_succ]
          refine wpList_skipG (by kernel_rfl) ?_
          try simp only [Act.put, List.setIfInBounds_toArray, List.set_cons_zero, List.set_cons_succ]
          refine wpList_skipG (by kernel_rfl) ?_
          try simp only [Act.put, List.setIfInBounds_toArray, List.set_cons_zero, List.set_cons_succ]
          refine wpList_skipG (by kernel_rfl) ?_
          try simp only [Act.put, List.setIfInBounds_toArray, List.set_cons_zero, List.set_cons_succ]
          refine wpList_skipG (by kernel_rfl) ?_
          try simp only [Act.put, List.setIfInBounds_toArray, List.set_cons_zero, List.set_cons_succ]
          refine wpList_valS (v := ?_) (by kernel_rfl) ?_ ?_
          rotate_left 1
          · (go_simp; try with_reducible rfl)
          try simp only [Act.put, List.setIfInBounds_toArray, List.set_cons_zero, List.set_cons_succ]
          refine wpList_nil ?_
          go_upto_region 11 with fail
          refine wp_region_lit ?_
          refine wpList_valG (by kernel_rfl) (ex_build0 rfl (bd_zcom _)) ?_
          try simp only [Act.put, List.setIfInBounds_toArray, List.set_cons_zero, List.set_cons_succ]
          refine wpList_unitG (by kernel_rfl) (ex_store 37 (.tmp 2) (.tmp 46) rfl w.heap.size 0 34 zc rfl rfl (T8.out.res.there 0 34 (by omega)) szCommit (fun i _ => zc_one i)) ?_
          try simp only [Act.put, List.setIfInBounds_toArray, List.set_cons_zero, List.set_cons_succ]
          refine wpList_valS (v := ?_) (by kernel_rfl) ?_ ?_
          rotate_left 1
          · (go_simp; try with_reducible rfl)
          try simp only [Act.put, List.setIfInBounds_toArray, List.set_cons_zero, List.set_cons_succ]
          refine wpList_nil ?_
          have B9 := T8.out.res.over zc
          have KZ := keep_setCells (b := w.heap.size) (arr 34 zc).toList 0 w8
          have G9 : Hid (Below w.heap.size w (w8.setCells w.heap.size 0 (arr 34 zc).toList)) := (T8.out.keep.trans (KZ.mono fun b hb _ => by omega)).below (Nat.le_refl _)
          clear T8 KZ
          generalize w8.setCells w.heap.size 0 (arr 34 zc).toList = w10 at B9 G9 ⊢
          go_wp2
          exact bodyPost_ret (results_blk2 rfl _ _ w.heap.size 37 34 zc B9 _ rfl Tryz.underlying37 rfl szCommit) rfl ⟨⟨fun _ => 0, 0, ps, []⟩, .slice none 0 0, by rw [decide_eq_false HT.out]; rfl, Or.inl ⟨none, 0, rfl, rfl⟩, fun h => absurd h HT.out, Fresh.nil _, G9.out⟩
      · have d0 : (q != 0) = true := by simpa using h0
        have HT : Hid (¬ isCom l) := fun h => h0 (CE.out.1.2 h).1
        clear h0 CE
        refine wp_region_lit ?_
        refine wpList_valS (v := ?_) (by kernel_rfl) ?_ ?_
        rotate_left 1
        · (go_simp; try with_reducible rfl)
        try simp only [Act.put, List.setIfInBounds_toArray, List.set_cons_zero, List.set_cons_succ]
        refine wpList_callG (by kernel_rfl) fun K hK => ?_
        go_simp
        refine (HE2.out _ _ T6.out.rd).mono ?_
        rintro e w8 ⟨rfl, hB7⟩
        refine hK _ _ ?_
        clear hK K
        try simp only [Act.put, List.setIfInBounds_toArray, List.set_cons_zero, List.set_cons_succ]
        have T8 := Lib.hid (T6.out.below hB7)
        clear hB7 T6 HE2
        refine wpList_valS (v := ?_) (by kernel_rfl) ?_ ?_
        rotate_left 1
        · (go_simp; try with_reducible rfl)
        try simp only [Act.put, List.setIfInBounds_toArray, List.set_cons_zero, List.set_cons_succ]
        refine wpList_valS (v := ?_) (by kernel_rfl) ?_ ?_
        rotate_left 1
        · (go_simp; try with_reducible rfl)
        try simp only [Act.put, List.setIfInBounds_toArray, List.set_cons_zero, List.set_cons_succ]
        refine wpList_skipG (by kernel_rfl) ?_
        try simp only [Act.put, List.setIfInBounds_toArray, List.set_cons_zero, List.set_cons_succ]
        refine wpList_skipG (by kernel_rfl) ?_
        try simp only [Act.put, List.setIfInBounds_toArray, List.set_cons_zero, List.set_cons_succ]
        refine wpList_skipG (by kernel_rfl) ?_
        try simp only [Act.put, List.setIfInBounds_toArray, List.set_cons_zero, List.set_cons_succ]
        refine wpList_valS (v := ?_) (by kernel_rfl) ?_ ?_
        rotate_left 1
        · (go_simp; try with_reducible rfl)
        try simp only [Act.put, List.setIfInBounds_toArray, List.set_cons_zero, List.set_cons_succ]
        refine wpList_valS (v := ?_) (by kernel_rfl) ?_ ?_
        rotate_left 1
        · (go_simp; try with_reducible rfl)
        try simp only [Act.put, List.setIfInBounds_toArray, List.set_cons_zero, List.set_cons_succ]
        refine wpList_skipG (by kernel_rfl) ?_
        try simp only [Act.put, List.setIfInBounds_toArray, List.set_cons_zero, List.set_cons_succ]
        refine wpList_skipG (by kernel_rfl) ?_
        try simp only [Act.put, List.setIfInBounds_toArray, List.set_cons_zero, List.set_cons_succ]
        refine wpList_skipG (by kernel_rfl) ?_
        try simp only [Act.put, List.setIfInBounds_toArray, List.set_cons_zero, List.set_cons_succ]
        refine wpList_skipG (by kernel_rfl) ?_
        try simp only [Act.put, List.setIfInBounds_toArray, List.set_cons_zero, List.set_cons_succ]
        refine wpList_valS (v := ?_) (by kernel_rfl) ?_ ?_
        rotate_left 1
        · (go_simp; try with_reducible rfl)
        try simp only [Act.put, List.setIfInBounds_toArray, List.set_cons_zero, List.set_cons_succ]
        refine wpList_nil ?_
        go_upto_region 11 with fail
        refine wp_region_lit ?_
        refine wpList_valG (by kernel_rfl) (ex_build0 rfl (bd_zcom _)) ?_
        try simp only [Act.put, List.setIfInBounds_toArray, List.set_cons_zero, List.set_cons_succ]
        refine wpList_unitG (by kernel_rfl) (ex_store 37 (.tmp 2) (.tmp 46) rfl w.heap.size 0 34 zc rfl rfl (T8.out.res.there 0 34 (by omega)) szCommit (fun i _ => zc_one i)) ?_
        try simp only [Act.put, List.setIfInBounds_toArray, List.set_cons_zero, List.set_cons_succ]
        refine wpList_valS (v := ?_) (by kernel_rfl) ?_ ?_
        rotate_left 1
        · (go_simp; try with_reducible rfl)
        try simp only [Act.put, List.setIfInBounds_toArray, List.set_cons_zero, List.set_cons_succ]
        refine wpList_nil ?_
        have B9 := T8.out.res.over zc
        have KZ := keep_setCells (b := w.heap.size) (arr 34 zc).toList 0 w8
        have G9 : Hid (Below w.heap.size w (w8.setCells w.heap.size 0 (arr 34 zc).toList)) := (T8.out.keep.trans (KZ.mono fun b hb _ => by omega)).below (Nat.le_refl _)
        clear T8 KZ
        generalize w8.setCells w.heap.size 0 (arr 34 zc).toList = w10 at B9 G9 ⊢
        go_wp2
        exact bodyPost_ret (results_blk2 rfl _ _ w.heap.size 37 34 zc B9 _ rfl Tryz.underlying37 rfl szCommit) rfl ⟨⟨fun _ => 0, 0, ps, []⟩, .slice none 0 0, by rw [decide_eq_false HT.out]; rfl, Or.inl ⟨none, 0, rfl, rfl⟩, fun h => absurd h HT.out, Fresh.nil _, G9.out⟩
end Go.Proofs.YtlbclfponongbaaGreatDoor
