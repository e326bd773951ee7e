import Derived.Test.YtlbclfponongbaaQ8
import Derived.Test.YtlbclfponongbaaO25
/- The document's answer: the object of a frame. -/
namespace Go.Proofs.Ytlbclfponongbaa
open Go.RowKit Classical
theorem qread_frame {c : UInt8} {t b : List UInt8} {p2 : Nat} {e2 : Int} (h2 : rText 4096 t 0 0 = (b, p2, e2)) (hk : kix c ≠ 0) :
    (endOf t.length p2 e2 = 0 → objOk (kix c) b → IsFrame (c :: t) (kix c) b) ∧ (∀ k l, IsFrame (c :: t) k l → endOf t.length p2 e2 = 0 ∧ kix c = k ∧ b = l) := by
  have l2 : p2 ≤ t.length := by have := rText_le 4096 t 0 0 (Nat.zero_le _); rw [h2] at this; exact this
  refine ⟨fun h0 hok => ⟨hok, ?_⟩, fun k l hf => ?_⟩
  · unfold endOf at h0
    split at h0
    · rename_i h; exact absurd h0 h
    · rename_i h
      split at h0
      · omega
      · have e0 : e2 = 0 := by omega
        subst e0
        have hp : p2 = t.length := by omega
        obtain ⟨t1, -, -, -, -⟩ := text_there (Nat.zero_le _) h2
        rw [hp, List.take_length, List.take_zero, List.nil_append] at t1
        unfold fb
        rw [lt_kix hk, t1]
  · obtain ⟨hok, hf⟩ := hf
    have hk := obj_kind hok
    have hl := hok.1
    have hf2 : c = lt k ∧ t = tx l := by
      have h3 : c :: t = lt k :: tx l := hf
      injection h3 with a b
      exact ⟨a, b⟩
    obtain ⟨hc, ht⟩ := hf2
    have d1 : t.drop 0 = tx l ++ [] := by rw [List.drop_zero, ht]; simp
    have g2 := text_read (most := 4096) d1 (Nat.zero_le _) (by omega) (by omega)
    rw [h2] at g2
    simp only [Prod.mk.injEq] at g2
    obtain ⟨b1, b2, b3⟩ := g2
    have hlen : t.length = (tx l).length := by rw [ht]
    refine ⟨?_, by rw [hc]; exact kix_lt hk, b1⟩
    unfold endOf
    rw [if_neg (by omega), if_neg (by omega)]
theorem no_frame_nil : ¬ isFrame [] := fun ⟨k, l, h⟩ => by have := h.2; unfold fb at this; cases this
theorem no_frame_kix {c : UInt8} {t : List UInt8} (h : kix c = 0) : ¬ isFrame (c :: t) := fun ⟨k, l, g⟩ => by
  have hk := obj_kind g.1
  have h3 : c :: t = lt k :: tx l := g.2
  injection h3 with a _
  have := kix_lt hk
  rw [← a, h] at this
  omega
theorem bd_zobj (w : World) : (Instr.build 24 #[]).run Try.prog w = .ok (.agg (arr 2 (ov 0 []))) w := by kernel_rfl
/- the three blocks of the call's own: what it answers (N), the object (N + 1), the reader (N + 2) -/
structure QO (w0 : World) (t : List UInt8) (k : Int) (b : List UInt8) (p : Nat) (e : Int) (w : World) : Prop where
  keep : Keep (fun b => b < w0.heap.size) w0 w
  res : Blk w w0.heap.size 24 2 (ov 0 [])
  obj : Blk w (w0.heap.size + 1) 24 2 (ov k b)
  rd : Rq w (w0.heap.size + 1 + 1) t p e
theorem QO.below {w0 w w' : World} {t b : List UInt8} {k : Int} {p : Nat} {e : Int} (h : QO w0 t k b p e w) (hb : Below w.heap.size w w') : QO w0 t k b p e w' :=
  ⟨h.keep.trans (Keep.all hb), h.res.below hb h.res.lt, h.obj.below hb h.obj.lt, h.rd.keep (K := fun _ => True) (Keep.all hb) trivial⟩
theorem QO.call {w0 w w' : World} {t b : List UInt8} {k : Int} {p p' : Nat} {e e' : Int} (h : QO w0 t k b p e w) (g : Rq w' (w0.heap.size + 1 + 1) t p' e') (kk : Keep (fun k => k ≠ w0.heap.size + 1 + 1) w w') : QO w0 t k b p' e' w' :=
  ⟨h.keep.trans (kk.mono fun b hb _ => by omega), kk.blk (by omega) h.res, kk.blk (by omega) h.obj, g⟩
theorem ov_body (k : Int) (l l' : List UInt8) (j : Nat) (hj : j < 2) : (if j = 1 then .string (bs l') else ov k l j) = ov k l' j := by
  unfold ov
  by_cases c : j = 0
  · subst c; rfl
  · rw [if_pos (by omega), if_neg c]
theorem ov_kind (k k' : Int) (l : List UInt8) (j : Nat) : (if j = 0 then .int .i64 k' else ov k l j) = ov k' l j := by
  unfold ov
  by_cases c : j = 0
  · rw [if_pos c, if_pos c]
  · rw [if_neg c, if_neg c, if_neg c]
theorem QO.body {w0 w : World} {t b b' : List UInt8} {k : Int} {p : Nat} {e : Int} (h : QO w0 t k b p e w) : QO w0 t k b' p e (w.setCell ⟨w0.heap.size + 1, 1, none⟩ (.string (bs b'))) := by
  have KZ : Keep (fun b => b ≠ w0.heap.size + 1) w (w.setCell ⟨w0.heap.size + 1, 1, none⟩ (.string (bs b'))) := (Keep.refl _ w).setCell (fun hh => hh rfl) _
  exact ⟨h.keep.trans (KZ.mono fun b hb _ => by omega), KZ.blk (by omega) h.res, (h.obj.set 1 _).congr fun j hj => ov_body _ _ _ _ hj, h.rd.keep KZ (by omega)⟩
/- ahead of the reader -/
structure QP (w0 : World) (k : Int) (w : World) : Prop where
  keep : Keep (fun b => b < w0.heap.size) w0 w
  res : Blk w w0.heap.size 24 2 (ov 0 [])
  obj : Blk w (w0.heap.size + 1) 24 2 (ov k [])
  size : w.heap.size = w0.heap.size + 1 + 1
theorem QP.start (w : World) : QP w 0 ((w.alloc (.cells (arr 2 (ov 0 [])) 24)).alloc (.cells (arr 2 (ov 0 [])) 24)) := by
  have z1 : (w.alloc (.cells (arr 2 (ov 0 [])) 24)).heap.size = w.heap.size + 1 := by simp
  have b1 : Blk ((w.alloc (.cells (arr 2 (ov 0 [])) 24)).alloc (.cells (arr 2 (ov 0 [])) 24)) (w.heap.size + 1) 24 2 (ov 0 []) := by
    rw [← z1]; exact Blk.newAt _ (heap_alloc_new _ _) rfl
  exact ⟨((Keep.refl _ w).alloc _).alloc _, (Blk.newAt _ (heap_alloc_new w _) rfl : Blk (w.alloc (.cells (arr 2 (ov 0 [])) 24)) w.heap.size 24 2 (ov 0 [])).alloc _, b1, by simp⟩
theorem QP.zero {w0 w : World} (h : QP w0 0 w) : QP w0 0 (w.setRow (w0.heap.size + 1) (arr 2 (ov 0 []))) := by
  have KZ : Keep (fun b => b ≠ w0.heap.size + 1) w (w.setRow (w0.heap.size + 1) (arr 2 (ov 0 []))) := (Keep.refl _ w).setRow (fun hh => hh rfl) _
  exact ⟨h.keep.trans (KZ.mono fun b hb _ => by omega), KZ.blk (by omega) h.res, h.obj.setRow _, by simp; exact h.size⟩
theorem QP.kind {w0 w : World} {k k' : Int} (h : QP w0 k w) : QP w0 k' (w.setCell ⟨w0.heap.size + 1, 0, none⟩ (.int .i64 k')) := by
  have KZ : Keep (fun b => b ≠ w0.heap.size + 1) w (w.setCell ⟨w0.heap.size + 1, 0, none⟩ (.int .i64 k')) := (Keep.refl _ w).setCell (fun hh => hh rfl) _
  exact ⟨h.keep.trans (KZ.mono fun b hb _ => by omega), KZ.blk (by omega) h.res, (h.obj.set 0 _).congr fun j _ => ov_kind _ _ _ _, by simp; exact h.size⟩
theorem QP.reader {w0 w : World} {k : Int} (h : QP w0 k w) (t : List UInt8) : QO w0 t k [] 0 0 (w.alloc (.cells #[.string (bs t), .int .i64 0, .int .i64 0] 50)) :=
  ⟨h.keep.alloc _, h.res.alloc _, h.obj.alloc _, by rw [← h.size]; exact heap_alloc_new _ _⟩
set_option maxHeartbeats 4000000 in
set_option maxRecDepth 100000 in
theorem qread_1 (t : List UInt8) (w : World) (hf : t.length ≤ 6000) :
    Calls Try.prog 6 #[.string (bs (98 :: t))] w fun e w' => (∀ k l, IsFrame (98 :: t) k l → e = .returned (.tuple #[.agg (arr 2 (ov k l)), .bool true])) ∧ (¬ isFrame (98 :: t) → e = .returned (.tuple #[.agg (arr 2 (ov 0 [])), .bool false])) ∧ Below w.heap.size w w' := by
  have T0 := Lib.hid (QP.start w)
  have T1 := Lib.hid T0.out.zero
  have ix : ∀ W : World, (Instr.index 9 (.string (bs (98 :: t))) (.int .i64 0)).run Try.prog W = .ok (.int .u8 98) W := fun W => idx_bs (98 :: t) 0 (by simp) W
  have hz := bs_size (98 :: t)
  rw [List.length_cons] at hz
  have ex : (bs (98 :: t)).extract 1 (bs (98 :: t)).size = bs t := by
    rw [bs_extract]
    congr 1
    rw [bs_size]
    simp
  obtain ⟨b, p2, e2, h2⟩ : ∃ b p2 e2, rText 4096 t 0 0 = (b, p2, e2) := ⟨_, _, _, rfl⟩
  have HRF := Lib.hid (qread_frame (c := 98) h2 (by decide))
  rw [show kix 98 = 1 by decide] at HRF
  have C1 : Hid (∀ W r, Rq W r t 0 0 → Calls Try.prog 17 #[.pointer (some ⟨r, 0, none⟩), .int .i64 4096] W fun u w' => u = .returned (.string (bs b)) ∧ Rq w' r t p2 e2 ∧ Keep (fun k => k ≠ r) W w') := fun W r h => by
    have := qtext_any 4096 h (Nat.zero_le _) (by omega)
    rw [h2] at this; exact this
  obtain ⟨q, hq⟩ : ∃ q, q = endOf t.length p2 e2 := ⟨_, rfl⟩
  have HE : Hid (∀ W r, Rq W r t p2 e2 → Calls Try.prog 18 #[.pointer (some ⟨r, 0, none⟩)] W fun u w' => u = .returned (.int .i64 q) ∧ Below W.heap.size W w') := fun W r h => by rw [hq]; exact qend_any h
  rw [← hq] at HRF
  have HR : Hid (∀ W, Calls Try.prog 19 #[.agg (arr 2 (ov 1 b))] W fun e w' => e = .returned (.bool (decide (objOk 1 b))) ∧ Below W.heap.size W w') := fun W => qright_any 1 b W
  have sz : ((bs (98 :: t)).size : Int) = (t.length : Int) + 1 := by omega
  have sz0 : (((bs (98 :: t)).size : Int) == 0) = false := by rw [beq_eq_false_iff_ne]; omega
  have sz1 : (1 : Int) ≤ ((bs (98 :: t)).size : Int) := by omega
  clear hq h2 hz hf
  generalize bs (98 :: t) = sb at ix ex sz sz0 sz1 ⊢
  obtain ⟨sd, hsd⟩ : ∃ sd, sd = bs t := ⟨_, rfl⟩
  have SD := Lib.hid hsd
  rw [← hsd] at ex
  clear hsd sz
  go_enter Try.func6, Try.ntmps6
  go_upto_region 4 with (first | (refine wpList_val rfl _ _ (ex_build0 rfl (bd_zobj _)) ?_) | (refine wpList_store_blk rfl 24 (.tmp 4) (.tmp 10) rfl (w.heap.size + 1) 2 (ov 0 []) (ov 0 []) rfl rfl 24 T0.out.obj szObject (fun i _ => ov_one _ _ i) ?_))
  change Code.wp Try.prog _ _ _ (((w.alloc (.cells (arr 2 (ov 0 [])) 24)).alloc (.cells (arr 2 (ov 0 [])) 24)).setRow (w.heap.size + 1) (arr 2 (ov 0 [])))
  generalize ((w.alloc (.cells (arr 2 (ov 0 [])) 24)).alloc (.cells (arr 2 (ov 0 [])) 24)).setRow (w.heap.size + 1) (arr 2 (ov 0 [])) = w1 at T1 ⊢
  clear T0
  have c0 : w1.cell? ⟨w.heap.size + 1, 0, none⟩ = some (.int .i64 0) := T1.out.obj.cell 0 (by omega)
  have f0 : w1.frozen? ⟨w.heap.size + 1, 0, none⟩ = false := T1.out.obj.frozen 0
  have T2 := Lib.hid (T1.out.kind (k' := 1))
  clear T1
  go_upto_region 12 with fail
  clear c0 f0 ix
  generalize w1.setCell ⟨w.heap.size + 1, 0, none⟩ (.int .i64 1) = w2 at T2 ⊢
  have z2 := T2.out.size
  have T3 : Hid (QO w t 1 [] 0 0 (w2.alloc (.cells #[.string sd, .int .i64 0, .int .i64 0] 50))) := by
    rw [SD.out]; exact T2.out.reader t
  clear T2
  go_upto_region 13 with fail
  clear ex
  go_wp2_with fail
  refine (C1.out _ _ T3.out.rd).mono ?_
  rintro e w4 ⟨rfl, R4, K4⟩
  have T4 := Lib.hid (T3.out.call R4 K4)
  have c1 : w4.cell? ⟨w.heap.size + 1, 1, none⟩ = some (.string (bs [])) := T4.out.obj.cell 1 (by omega)
  have f1 : w4.frozen? ⟨w.heap.size + 1, 1, none⟩ = false := T4.out.obj.frozen 1
  have T5 := Lib.hid (T4.out.body (b' := b))
  clear R4 K4 T3 T4 C1
  generalize bs [] = sb0 at c1
  go_upto_region 14 with fail
  clear c1 f1
  generalize w4.setCell ⟨w.heap.size + 1, 1, none⟩ (.string (bs b)) = w5 at T5 ⊢
  by_cases h0 : q = 0
  · subst h0
    by_cases hok : objOk 1 b
    · have HF := Lib.hid (HRF.out.1 rfl hok)
      rw [decide_eq_true hok] at HR
      clear hok
      refine wp_region_lit ?_
      refine wpList_valS (v := ?_) (by kernel_rfl) ?_ ?_
      rotate_left 1
      · (go_simp; try with_reducible rfl)
      try simp only [Act.put, List.setIfInBounds_toArray, List.set_cons_zero, List.set_cons_succ]
      refine wpList_callG (by kernel_rfl) fun K hK => ?_
      go_simp
      refine (HE.out _ _ T5.out.rd).mono ?_
      rintro e w7 ⟨rfl, hB7⟩
      refine hK _ _ ?_
      clear hK K
      try simp only [Act.put, List.setIfInBounds_toArray, List.set_cons_zero, List.set_cons_succ]
      have T7 := Lib.hid (T5.out.below hB7)
      clear hB7 T5 HE
      refine wpList_valS (v := ?_) (by kernel_rfl) ?_ ?_
      rotate_left 1
      · (go_simp; try with_reducible rfl)
      try simp only [Act.put, List.setIfInBounds_toArray, List.set_cons_zero, List.set_cons_succ]
      refine wpList_valS (v := ?_) (by kernel_rfl) ?_ ?_
      rotate_left 1
      · (go_simp; try with_reducible rfl)
      try simp only [Act.put, List.setIfInBounds_toArray, List.set_cons_zero, List.set_cons_succ]
      refine wpList_valG (by kernel_rfl) (ex_load 24 (.tmp 4) rfl (w.heap.size + 1) 0 2 (ov 1 b) rfl Try.underlying24 rfl szObject T7.out.obj.at0) ?_
      try simp only [Act.put, List.setIfInBounds_toArray, List.set_cons_zero, List.set_cons_succ]
      refine wpList_callG (by kernel_rfl) fun K hK => ?_
      go_simp
      refine (HR.out _).mono ?_
      rintro e w8 ⟨rfl, hB8⟩
      refine hK _ _ ?_
      clear hK K
      try simp only [Act.put, List.setIfInBounds_toArray, List.set_cons_zero, List.set_cons_succ]
      have T8 := Lib.hid (T7.out.below hB8)
      clear hB8 T7 HR
      refine wpList_valS (v := ?_) (by kernel_rfl) ?_ ?_
      rotate_left 1
      · (go_simp; try with_reducible rfl)
      try simp only [Act.put, List.setIfInBounds_toArray, List.set_cons_zero, List.set_cons_succ]
      refine wpList_valS (v := ?_) (by kernel_rfl) ?_ ?_
      rotate_left 1
      · (go_simp; try with_reducible rfl)
      try simp only [Act.put, List.setIfInBounds_toArray, List.set_cons_zero, List.set_cons_succ]
      refine wpList_nil ?_
      go_upto_region 16 with fail
      refine wp_region_lit ?_
      refine wpList_valG (by kernel_rfl) (ex_load 24 (.tmp 4) rfl (w.heap.size + 1) 0 2 (ov 1 b) rfl Try.underlying24 rfl szObject T8.out.obj.at0) ?_
      try simp only [Act.put, List.setIfInBounds_toArray, List.set_cons_zero, List.set_cons_succ]
      refine wpList_unitG (by kernel_rfl) (ex_store 24 (.tmp 2) (.tmp 39) rfl w.heap.size 0 2 (ov 1 b) rfl rfl (T8.out.res.there 0 2 (by omega)) szObject (fun i _ => ov_one _ _ i)) ?_
      try simp only [Act.put, List.setIfInBounds_toArray, List.set_cons_zero, List.set_cons_succ]
      refine wpList_valS (v := ?_) (by kernel_rfl) ?_ ?_
      rotate_left 1
      · (go_simp; try with_reducible rfl)
      try simp only [Act.put, List.setIfInBounds_toArray, List.set_cons_zero, List.set_cons_succ]
      refine wpList_nil ?_
      have B9 := T8.out.res.over (ov 1 b)
      have KZ := keep_setCells (b := w.heap.size) (arr 2 (ov 1 b)).toList 0 w8
      have G9 : Hid (Below w.heap.size w (w8.setCells w.heap.size 0 (arr 2 (ov 1 b)).toList)) := (T8.out.keep.trans (KZ.mono fun b hb _ => by omega)).below (Nat.le_refl _)
      clear T8 KZ
      generalize w8.setCells w.heap.size 0 (arr 2 (ov 1 b)).toList = w10 at B9 G9 ⊢
      go_wp2
      exact bodyPost_ret (results_blk2 rfl _ _ w.heap.size 24 2 (ov 1 b) B9 _ rfl Try.underlying24 rfl szObject) rfl ⟨fun k l h => (by
        obtain ⟨_, g1, g2⟩ := HRF.out.2 k l h
        rw [← g1, ← g2]; rfl), fun h => absurd ⟨_, _, HF.out⟩ h, G9.out⟩
    · have NF : Hid (¬ isFrame (98 :: t)) := fun ⟨k, l, h⟩ => by
        obtain ⟨_, g1, g2⟩ := HRF.out.2 k l h
        exact hok (by rw [g1, g2]; exact h.1)
      rw [decide_eq_false hok] at HR
      clear hok
      refine wp_region_lit ?_
      refine wpList_valS (v := ?_) (by kernel_rfl) ?_ ?_
      rotate_left 1
      · (go_simp; try with_reducible rfl)
      try simp only [Act.put, List.setIfInBounds_toArray, List.set_cons_zero, List.set_cons_succ]
      refine wpList_callG (by kernel_rfl) fun K hK => ?_
      go_simp
      refine (HE.out _ _ T5.out.rd).mono ?_
      rintro e w7 ⟨rfl, hB7⟩
      refine hK _ _ ?_
      clear hK K
      try simp only [Act.put, List.setIfInBounds_toArray, List.set_cons_zero, List.set_cons_succ]
      have T7 := Lib.hid (T5.out.below hB7)
      clear hB7 T5 HE
      refine wpList_valS (v := ?_) (by kernel_rfl) ?_ ?_
      rotate_left 1
      · (go_simp; try with_reducible rfl)
      try simp only [Act.put, List.setIfInBounds_toArray, List.set_cons_zero, List.set_cons_succ]
      refine wpList_valS (v := ?_) (by kernel_rfl) ?_ ?_
      rotate_left 1
      · (go_simp; try with_reducible rfl)
      try simp only [Act.put, List.setIfInBounds_toArray, List.set_cons_zero, List.set_cons_succ]
      refine wpList_valG (by kernel_rfl) (ex_load 24 (.tmp 4) rfl (w.heap.size + 1) 0 2 (ov 1 b) rfl Try.underlying24 rfl szObject T7.out.obj.at0) ?_
      try simp only [Act.put, List.setIfInBounds_toArray, List.set_cons_zero, List.set_cons_succ]
      refine wpList_callG (by kernel_rfl) fun K hK => ?_
      go_simp
      refine (HR.out _).mono ?_
      rintro e w8 ⟨rfl, hB8⟩
      refine hK _ _ ?_
      clear hK K
      try simp only [Act.put, List.setIfInBounds_toArray, List.set_cons_zero, List.set_cons_succ]
      have T8 := Lib.hid (T7.out.below hB8)
      clear hB8 T7 HR
      refine wpList_valS (v := ?_) (by kernel_rfl) ?_ ?_
      rotate_left 1
      · (go_simp; try with_reducible rfl)
      try simp only [Act.put, List.setIfInBounds_toArray, List.set_cons_zero, List.set_cons_succ]
      refine wpList_valS (v := ?_) (by kernel_rfl) ?_ ?_
      rotate_left 1
      · (go_simp; try with_reducible rfl)
      try simp only [Act.put, List.setIfInBounds_toArray, List.set_cons_zero, List.set_cons_succ]
      refine wpList_nil ?_
      go_upto_region 15 with fail
      refine wp_region_lit ?_
      refine wpList_valG (by kernel_rfl) (ex_build0 rfl (bd_zobj _)) ?_
      try simp only [Act.put, List.setIfInBounds_toArray, List.set_cons_zero, List.set_cons_succ]
      refine wpList_unitG (by kernel_rfl) (ex_store 24 (.tmp 2) (.tmp 38) rfl w.heap.size 0 2 (ov 0 []) rfl rfl (T8.out.res.there 0 2 (by omega)) szObject (fun i _ => ov_one _ _ i)) ?_
      try simp only [Act.put, List.setIfInBounds_toArray, List.set_cons_zero, List.set_cons_succ]
      refine wpList_valS (v := ?_) (by kernel_rfl) ?_ ?_
      rotate_left 1
      · (go_simp; try with_reducible rfl)
      try simp only [Act.put, List.setIfInBounds_toArray, List.set_cons_zero, List.set_cons_succ]
      refine wpList_nil ?_
      have B9 := T8.out.res.over (ov 0 [])
      have KZ := keep_setCells (b := w.heap.size) (arr 2 (ov 0 [])).toList 0 w8
      have G9 : Hid (Below w.heap.size w (w8.setCells w.heap.size 0 (arr 2 (ov 0 [])).toList)) := (T8.out.keep.trans (KZ.mono fun b hb _ => by omega)).below (Nat.le_refl _)
      clear T8 KZ
      generalize w8.setCells w.heap.size 0 (arr 2 (ov 0 [])).toList = w10 at B9 G9 ⊢
      go_wp2
      exact bodyPost_ret (results_blk2 rfl _ _ w.heap.size 24 2 (ov 0 []) B9 _ rfl Try.underlying24 rfl szObject) rfl ⟨fun k l h => absurd ⟨k, l, h⟩ NF.out, fun _ => rfl, G9.out⟩
  · have d0 : (q != 0) = true := by simpa using h0
    have NF : Hid (¬ isFrame (98 :: t)) := fun ⟨k, l, h⟩ => h0 (HRF.out.2 k l h).1
    clear h0
    refine wp_region_lit ?_
    refine wpList_valS (v := ?_) (by kernel_rfl) ?_ ?_
    rotate_left 1
    · (go_simp; try with_reducible rfl)
    try simp only [Act.put, List.setIfInBounds_toArray, List.set_cons_zero, List.set_cons_succ]
    refine wpList_callG (by kernel_rfl) fun K hK => ?_
    go_simp
    refine (HE.out _ _ T5.out.rd).mono ?_
    rintro e w8 ⟨rfl, hB7⟩
    refine hK _ _ ?_
    clear hK K
    try simp only [Act.put, List.setIfInBounds_toArray, List.set_cons_zero, List.set_cons_succ]
    have T8 := Lib.hid (T5.out.below hB7)
    clear hB7 T5 HE
    refine wpList_valS (v := ?_) (by kernel_rfl) ?_ ?_
    rotate_left 1
    · (go_simp; try with_reducible rfl)
    try simp only [Act.put, List.setIfInBounds_toArray, List.set_cons_zero, List.set_cons_succ]
    refine wpList_valS (v := ?_) (by kernel_rfl) ?_ ?_
    rotate_left 1
    · (go_simp; try with_reducible rfl)
    try simp only [Act.put, List.setIfInBounds_toArray, List.set_cons_zero, List.set_cons_succ]
    refine wpList_skipG (by kernel_rfl) ?_
    try simp only [Act.put, List.setIfInBounds_toArray, List.set_cons_zero, List.set_cons_succ]
    refine wpList_skipG (by kernel_rfl) ?_
    try simp only [Act.put, List.setIfInBounds_toArray, List.set_cons_zero, List.set_cons_succ]
    refine wpList_skipG (by kernel_rfl) ?_
    try simp only [Act.put, List.setIfInBounds_toArray, List.set_cons_zero, List.set_cons_succ]
    refine wpList_valS (v := ?_) (by kernel_rfl) ?_ ?_
    rotate_left 1
    · (go_simp; try with_reducible rfl)
    try simp only [Act.put, List.setIfInBounds_toArray, List.set_cons_zero, List.set_cons_succ]
    refine wpList_nil ?_
    go_upto_region 15 with fail
    refine wp_region_lit ?_
    refine wpList_valG (by kernel_rfl) (ex_build0 rfl (bd_zobj _)) ?_
    try simp only [Act.put, List.setIfInBounds_toArray, List.set_cons_zero, List.set_cons_succ]
    refine wpList_unitG (by kernel_rfl) (ex_store 24 (.tmp 2) (.tmp 38) rfl w.heap.size 0 2 (ov 0 []) rfl rfl (T8.out.res.there 0 2 (by omega)) szObject (fun i _ => ov_one _ _ i)) ?_
    try simp only [Act.put, List.setIfInBounds_toArray, List.set_cons_zero, List.set_cons_succ]
    refine wpList_valS (v := ?_) (by kernel_rfl) ?_ ?_
    rotate_left 1
    · (go_simp; try with_reducible rfl)
    try simp only [Act.put, List.setIfInBounds_toArray, List.set_cons_zero, List.set_cons_succ]
    refine wpList_nil ?_
    have B9 := T8.out.res.over (ov 0 [])
    have KZ := keep_setCells (b := w.heap.size) (arr 2 (ov 0 [])).toList 0 w8
    have G9 : Hid (Below w.heap.size w (w8.setCells w.heap.size 0 (arr 2 (ov 0 [])).toList)) := (T8.out.keep.trans (KZ.mono fun b hb _ => by omega)).below (Nat.le_refl _)
    clear T8 KZ
    generalize w8.setCells w.heap.size 0 (arr 2 (ov 0 [])).toList = w10 at B9 G9 ⊢
    go_wp2
    exact bodyPost_ret (results_blk2 rfl _ _ w.heap.size 24 2 (ov 0 []) B9 _ rfl Try.underlying24 rfl szObject) rfl ⟨fun k l h => absurd ⟨k, l, h⟩ NF.out, fun _ => rfl, G9.out⟩
set_option maxHeartbeats 4000000 in
set_option maxRecDepth 100000 in
theorem qread_2 (t : List UInt8) (w : World) (hf : t.length ≤ 6000) :
    Calls Try.prog 6 #[.string (bs (116 :: t))] w fun e w' => (∀ k l, IsFrame (116 :: t) k l → e = .returned (.tuple #[.agg (arr 2 (ov k l)), .bool true])) ∧ (¬ isFrame (116 :: t) → e = .returned (.tuple #[.agg (arr 2 (ov 0 [])), .bool false])) ∧ Below w.heap.size w w' := by
  have T0 := Lib.hid (QP.start w)
  have T1 := Lib.hid T0.out.zero
  have ix : ∀ W : World, (Instr.index 9 (.string (bs (116 :: t))) (.int .i64 0)).run Try.prog W = .ok (.int .u8 116) W := fun W => idx_bs (116 :: t) 0 (by simp) W
  have hz := bs_size (116 :: t)
  rw [List.length_cons] at hz
  have ex : (bs (116 :: t)).extract 1 (bs (116 :: t)).size = bs t := by
    rw [bs_extract]
    congr 1
    rw [bs_size]
    simp
  obtain ⟨b, p2, e2, h2⟩ : ∃ b p2 e2, rText 4096 t 0 0 = (b, p2, e2) := ⟨_, _, _, rfl⟩
  have HRF := Lib.hid (qread_frame (c := 116) h2 (by decide))
  rw [show kix 116 = 2 by decide] at HRF
  have C1 : Hid (∀ W r, Rq W r t 0 0 → Calls Try.prog 17 #[.pointer (some ⟨r, 0, none⟩), .int .i64 4096] W fun u w' => u = .returned (.string (bs b)) ∧ Rq w' r t p2 e2 ∧ Keep (fun k => k ≠ r) W w') := fun W r h => by
    have := qtext_any 4096 h (Nat.zero_le _) (by omega)
    rw [h2] at this; exact this
  obtain ⟨q, hq⟩ : ∃ q, q = endOf t.length p2 e2 := ⟨_, rfl⟩
  have HE : Hid (∀ W r, Rq W r t p2 e2 → Calls Try.prog 18 #[.pointer (some ⟨r, 0, none⟩)] W fun u w' => u = .returned (.int .i64 q) ∧ Below W.heap.size W w') := fun W r h => by rw [hq]; exact qend_any h
  rw [← hq] at HRF
  have HR : Hid (∀ W, Calls Try.prog 19 #[.agg (arr 2 (ov 2 b))] W fun e w' => e = .returned (.bool (decide (objOk 2 b))) ∧ Below W.heap.size W w') := fun W => qright_any 2 b W
  have sz : ((bs (116 :: t)).size : Int) = (t.length : Int) + 1 := by omega
  have sz0 : (((bs (116 :: t)).size : Int) == 0) = false := by rw [beq_eq_false_iff_ne]; omega
  have sz1 : (1 : Int) ≤ ((bs (116 :: t)).size : Int) := by omega
  clear hq h2 hz hf
  generalize bs (116 :: t) = sb at ix ex sz sz0 sz1 ⊢
  obtain ⟨sd, hsd⟩ : ∃ sd, sd = bs t := ⟨_, rfl⟩
  have SD := Lib.hid hsd
  rw [← hsd] at ex
  clear hsd sz
  go_enter Try.func6, Try.ntmps6
  go_upto_region 4 with (first | (refine wpList_val rfl _ _ (ex_build0 rfl (bd_zobj _)) ?_) | (refine wpList_store_blk rfl 24 (.tmp 4) (.tmp 10) rfl (w.heap.size + 1) 2 (ov 0 []) (ov 0 []) rfl rfl 24 T0.out.obj szObject (fun i _ => ov_one _ _ i) ?_))
  change Code.wp Try.prog _ _ _ (((w.alloc (.cells (arr 2 (ov 0 [])) 24)).alloc (.cells (arr 2 (ov 0 [])) 24)).setRow (w.heap.size + 1) (arr 2 (ov 0 [])))
  generalize ((w.alloc (.cells (arr 2 (ov 0 [])) 24)).alloc (.cells (arr 2 (ov 0 [])) 24)).setRow (w.heap.size + 1) (arr 2 (ov 0 [])) = w1 at T1 ⊢
  clear T0
  have c0 : w1.cell? ⟨w.heap.size + 1, 0, none⟩ = some (.int .i64 0) := T1.out.obj.cell 0 (by omega)
  have f0 : w1.frozen? ⟨w.heap.size + 1, 0, none⟩ = false := T1.out.obj.frozen 0
  have T2 := Lib.hid (T1.out.kind (k' := 2))
  clear T1
  go_upto_region 12 with fail
  clear c0 f0 ix
  generalize w1.setCell ⟨w.heap.size + 1, 0, none⟩ (.int .i64 2) = w2 at T2 ⊢
  have z2 := T2.out.size
  have T3 : Hid (QO w t 2 [] 0 0 (w2.alloc (.cells #[.string sd, .int .i64 0, .int .i64 0] 50))) := by
    rw [SD.out]; exact T2.out.reader t
  clear T2
  go_upto_region 13 with fail
  clear ex
  go_wp2_with fail
  refine (C1.out _ _ T3.out.rd).mono ?_
  rintro e w4 ⟨rfl, R4, K4⟩
  have T4 := Lib.hid (T3.out.call R4 K4)
  have c1 : w4.cell? ⟨w.heap.size + 1, 1, none⟩ = some (.string (bs [])) := T4.out.obj.cell 1 (by omega)
  have f1 : w4.frozen? ⟨w.heap.size + 1, 1, none⟩ = false := T4.out.obj.frozen 1
  have T5 := Lib.hid (T4.out.body (b' := b))
  clear R4 K4 T3 T4 C1
  generalize bs [] = sb0 at c1
  go_upto_region 14 with fail
  clear c1 f1
  generalize w4.setCell ⟨w.heap.size + 1, 1, none⟩ (.string (bs b)) = w5 at T5 ⊢
  by_cases h0 : q = 0
  · subst h0
    by_cases hok : objOk 2 b
    · have HF := Lib.hid (HRF.out.1 rfl hok)
      rw [decide_eq_true hok] at HR
      clear hok
      refine wp_region_lit ?_
      refine wpList_valS (v := ?_) (by kernel_rfl) ?_ ?_
      rotate_left 1
      · (go_simp; try with_reducible rfl)
      try simp only [Act.put, List.setIfInBounds_toArray, List.set_cons_zero, List.set_cons_succ]
      refine wpList_callG (by kernel_rfl) fun K hK => ?_
      go_simp
      refine (HE.out _ _ T5.out.rd).mono ?_
      rintro e w7 ⟨rfl, hB7⟩
      refine hK _ _ ?_
      clear hK K
      try simp only [Act.put, List.setIfInBounds_toArray, List.set_cons_zero, List.set_cons_succ]
      have T7 := Lib.hid (T5.out.below hB7)
      clear hB7 T5 HE
      refine wpList_valS (v := ?_) (by kernel_rfl) ?_ ?_
      rotate_left 1
      · (go_simp; try with_reducible rfl)
      try simp only [Act.put, List.setIfInBounds_toArray, List.set_cons_zero, List.set_cons_succ]
      refine wpList_valS (v := ?_) (by kernel_rfl) ?_ ?_
      rotate_left 1
      · (go_simp; try with_reducible rfl)
      try simp only [Act.put, List.setIfInBounds_toArray, List.set_cons_zero, List.set_cons_succ]
      refine wpList_valG (by kernel_rfl) (ex_load 24 (.tmp 4) rfl (w.heap.size + 1) 0 2 (ov 2 b) rfl Try.underlying24 rfl szObject T7.out.obj.at0) ?_
      try simp only [Act.put, List.setIfInBounds_toArray, List.set_cons_zero, List.set_cons_succ]
      refine wpList_callG (by kernel_rfl) fun K hK => ?_
      go_simp
      refine (HR.out _).mono ?_
      rintro e w8 ⟨rfl, hB8⟩
      refine hK _ _ ?_
      clear hK K
      try simp only [Act.put, List.setIfInBounds_toArray, List.set_cons_zero, List.set_cons_succ]
      have T8 := Lib.hid (T7.out.below hB8)
      clear hB8 T7 HR
      refine wpList_valS (v := ?_) (by kernel_rfl) ?_ ?_
      rotate_left 1
      · (go_simp; try with_reducible rfl)
      try simp only [Act.put, List.setIfInBounds_toArray, List.set_cons_zero, List.set_cons_succ]
      refine wpList_valS (v := ?_) (by kernel_rfl) ?_ ?_
      rotate_left 1
      · (go_simp; try with_reducible rfl)
      try simp only [Act.put, List.setIfInBounds_toArray, List.set_cons_zero, List.set_cons_succ]
      refine wpList_nil ?_
      go_upto_region 16 with fail
      refine wp_region_lit ?_
      refine wpList_valG (by kernel_rfl) (ex_load 24 (.tmp 4) rfl (w.heap.size + 1) 0 2 (ov 2 b) rfl Try.underlying24 rfl szObject T8.out.obj.at0) ?_
      try simp only [Act.put, List.setIfInBounds_toArray, List.set_cons_zero, List.set_cons_succ]
      refine wpList_unitG (by kernel_rfl) (ex_store 24 (.tmp 2) (.tmp 39) rfl w.heap.size 0 2 (ov 2 b) rfl rfl (T8.out.res.there 0 2 (by omega)) szObject (fun i _ => ov_one _ _ i)) ?_
      try simp only [Act.put, List.setIfInBounds_toArray, List.set_cons_zero, List.set_cons_succ]
      refine wpList_valS (v := ?_) (by kernel_rfl) ?_ ?_
      rotate_left 1
      · (go_simp; try with_reducible rfl)
      try simp only [Act.put, List.setIfInBounds_toArray, List.set_cons_zero, List.set_cons_succ]
      refine wpList_nil ?_
      have B9 := T8.out.res.over (ov 2 b)
      have KZ := keep_setCells (b := w.heap.size) (arr 2 (ov 2 b)).toList 0 w8
      have G9 : Hid (Below w.heap.size w (w8.setCells w.heap.size 0 (arr 2 (ov 2 b)).toList)) := (T8.out.keep.trans (KZ.mono fun b hb _ => by omega)).below (Nat.le_refl _)
      clear T8 KZ
      generalize w8.setCells w.heap.size 0 (arr 2 (ov 2 b)).toList = w10 at B9 G9 ⊢
      go_wp2
      exact bodyPost_ret (results_blk2 rfl _ _ w.heap.size 24 2 (ov 2 b) B9 _ rfl Try.underlying24 rfl szObject) rfl ⟨fun k l h => (by
        obtain ⟨_, g1, g2⟩ := HRF.out.2 k l h
        rw [← g1, ← g2]; rfl), fun h => absurd ⟨_, _, HF.out⟩ h, G9.out⟩
    · have NF : Hid (¬ isFrame (116 :: t)) := fun ⟨k, l, h⟩ => by
        obtain ⟨_, g1, g2⟩ := HRF.out.2 k l h
        exact hok (by rw [g1, g2]; exact h.1)
      rw [decide_eq_false hok] at HR
      clear hok
      refine wp_region_lit ?_
      refine wpList_valS (v := ?_) (by kernel_rfl) ?_ ?_
      rotate_left 1
      · (go_simp; try with_reducible rfl)
      try simp only [Act.put, List.setIfInBounds_toArray, List.set_cons_zero, List.set_cons_succ]
      refine wpList_callG (by kernel_rfl) fun K hK => ?_
      go_simp
      refine (HE.out _ _ T5.out.rd).mono ?_
      rintro e w7 ⟨rfl, hB7⟩
      refine hK _ _ ?_
      clear hK K
      try simp only [Act.put, List.setIfInBounds_toArray, List.set_cons_zero, List.set_cons_succ]
      have T7 := Lib.hid (T5.out.below hB7)
      clear hB7 T5 HE
      refine wpList_valS (v := ?_) (by kernel_rfl) ?_ ?_
      rotate_left 1
      · (go_simp; try with_reducible rfl)
      try simp only [Act.put, List.setIfInBounds_toArray, List.set_cons_zero, List.set_cons_succ]
      refine wpList_valS (v := ?_) (by kernel_rfl) ?_ ?_
      rotate_left 1
      · (go_simp; try with_reducible rfl)
      try simp only [Act.put, List.setIfInBounds_toArray, List.set_cons_zero, List.set_cons_succ]
      refine wpList_valG (by kernel_rfl) (ex_load 24 (.tmp 4) rfl (w.heap.size + 1) 0 2 (ov 2 b) rfl Try.underlying24 rfl szObject T7.out.obj.at0) ?_
      try simp only [Act.put, List.setIfInBounds_toArray, List.set_cons_zero, List.set_cons_succ]
      refine wpList_callG (by kernel_rfl) fun K hK => ?_
      go_simp
      refine (HR.out _).mono ?_
      rintro e w8 ⟨rfl, hB8⟩
      refine hK _ _ ?_
      clear hK K
      try simp only [Act.put, List.setIfInBounds_toArray, List.set_cons_zero, List.set_cons_succ]
      have T8 := Lib.hid (T7.out.below hB8)
      clear hB8 T7 HR
      refine wpList_valS (v := ?_) (by kernel_rfl) ?_ ?_
      rotate_left 1
      · (go_simp; try with_reducible rfl)
      try simp only [Act.put, List.setIfInBounds_toArray, List.set_cons_zero, List.set_cons_succ]
      refine wpList_valS (v := ?_) (by kernel_rfl) ?_ ?_
      rotate_left 1
      · (go_simp; try with_reducible rfl)
      try simp only [Act.put, List.setIfInBounds_toArray, List.set_cons_zero, List.set_cons_succ]
      refine wpList_nil ?_
      go_upto_region 15 with fail
      refine wp_region_lit ?_
      refine wpList_valG (by kernel_rfl) (ex_build0 rfl (bd_zobj _)) ?_
      try simp only [Act.put, List.setIfInBounds_toArray, List.set_cons_zero, List.set_cons_succ]
      refine wpList_unitG (by kernel_rfl) (ex_store 24 (.tmp 2) (.tmp 38) rfl w.heap.size 0 2 (ov 0 []) rfl rfl (T8.out.res.there 0 2 (by omega)) szObject (fun i _ => ov_one _ _ i)) ?_
      try simp only [Act.put, List.setIfInBounds_toArray, List.set_cons_zero, List.set_cons_succ]
      refine wpList_valS (v := ?_) (by kernel_rfl) ?_ ?_
      rotate_left 1
      · (go_simp; try with_reducible rfl)
      try simp only [Act.put, List.setIfInBounds_toArray, List.set_cons_zero, List.set_cons_succ]
      refine wpList_nil ?_
      have B9 := T8.out.res.over (ov 0 [])
      have KZ := keep_setCells (b := w.heap.size) (arr 2 (ov 0 [])).toList 0 w8
      have G9 : Hid (Below w.heap.size w (w8.setCells w.heap.size 0 (arr 2 (ov 0 [])).toList)) := (T8.out.keep.trans (KZ.mono fun b hb _ => by omega)).below (Nat.le_refl _)
      clear T8 KZ
      generalize w8.setCells w.heap.size 0 (arr 2 (ov 0 [])).toList = w10 at B9 G9 ⊢
      go_wp2
      exact bodyPost_ret (results_blk2 rfl _ _ w.heap.size 24 2 (ov 0 []) B9 _ rfl Try.underlying24 rfl szObject) rfl ⟨fun k l h => absurd ⟨k, l, h⟩ NF.out, fun _ => rfl, G9.out⟩
  · have d0 : (q != 0) = true := by simpa using h0
    have NF : Hid (¬ isFrame (116 :: t)) := fun ⟨k, l, h⟩ => h0 (HRF.out.2 k l h).1
    clear h0
    refine wp_region_lit ?_
    refine wpList_valS (v := ?_) (by kernel_rfl) ?_ ?_
    rotate_left 1
    · (go_simp; try with_reducible rfl)
    try simp only [Act.put, List.setIfInBounds_toArray, List.set_cons_zero, List.set_cons_succ]
    refine wpList_callG (by kernel_rfl) fun K hK => ?_
    go_simp
    refine (HE.out _ _ T5.out.rd).mono ?_
    rintro e w8 ⟨rfl, hB7⟩
    refine hK _ _ ?_
    clear hK K
    try simp only [Act.put, List.setIfInBounds_toArray, List.set_cons_zero, List.set_cons_succ]
    have T8 := Lib.hid (T5.out.below hB7)
    clear hB7 T5 HE
    refine wpList_valS (v := ?_) (by kernel_rfl) ?_ ?_
    rotate_left 1
    · (go_simp; try with_reducible rfl)
    try simp only [Act.put, List.setIfInBounds_toArray, List.set_cons_zero, List.set_cons_succ]
    refine wpList_valS (v := ?_) (by kernel_rfl) ?_ ?_
    rotate_left 1
    · (go_simp; try with_reducible rfl)
    try simp only [Act.put, List.setIfInBounds_toArray, List.set_cons_zero, List.set_cons_succ]
    refine wpList_skipG (by kernel_rfl) ?_
    try simp only [Act.put, List.setIfInBounds_toArray, List.set_cons_zero, List.set_cons_succ]
    refine wpList_skipG (by kernel_rfl) ?_
    try simp only [Act.put, List.setIfInBounds_toArray, List.set_cons_zero, List.set_cons_succ]
    refine wpList_skipG (by kernel_rfl) ?_
    try simp only [Act.put, List.setIfInBounds_toArray, List.set_cons_zero, List.set_cons_succ]
    refine wpList_valS (v := ?_) (by kernel_rfl) ?_ ?_
    rotate_left 1
    · (go_simp; try with_reducible rfl)
    try simp only [Act.put, List.setIfInBounds_toArray, List.set_cons_zero, List.set_cons_succ]
    refine wpList_nil ?_
    go_upto_region 15 with fail
    refine wp_region_lit ?_
    refine wpList_valG (by kernel_rfl) (ex_build0 rfl (bd_zobj _)) ?_
    try simp only [Act.put, List.setIfInBounds_toArray, List.set_cons_zero, List.set_cons_succ]
    refine wpList_unitG (by kernel_rfl) (ex_store 24 (.tmp 2) (.tmp 38) rfl w.heap.size 0 2 (ov 0 []) rfl rfl (T8.out.res.there 0 2 (by omega)) szObject (fun i _ => ov_one _ _ i)) ?_
    try simp only [Act.put, List.setIfInBounds_toArray, List.set_cons_zero, List.set_cons_succ]
    refine wpList_valS (v := ?_) (by kernel_rfl) ?_ ?_
    rotate_left 1
    · (go_simp; try with_reducible rfl)
    try simp only [Act.put, List.setIfInBounds_toArray, List.set_cons_zero, List.set_cons_succ]
    refine wpList_nil ?_
    have B9 := T8.out.res.over (ov 0 [])
    have KZ := keep_setCells (b := w.heap.size) (arr 2 (ov 0 [])).toList 0 w8
    have G9 : Hid (Below w.heap.size w (w8.setCells w.heap.size 0 (arr 2 (ov 0 [])).toList)) := (T8.out.keep.trans (KZ.mono fun b hb _ => by omega)).below (Nat.le_refl _)
    clear T8 KZ
    generalize w8.setCells w.heap.size 0 (arr 2 (ov 0 [])).toList = w10 at B9 G9 ⊢
    go_wp2
    exact bodyPost_ret (results_blk2 rfl _ _ w.heap.size 24 2 (ov 0 []) B9 _ rfl Try.underlying24 rfl szObject) rfl ⟨fun k l h => absurd ⟨k, l, h⟩ NF.out, fun _ => rfl, G9.out⟩
set_option maxHeartbeats 4000000 in
set_option maxRecDepth 100000 in
theorem qread_3 (t : List UInt8) (w : World) (hf : t.length ≤ 6000) :
    Calls Try.prog 6 #[.string (bs (99 :: t))] w fun e w' => (∀ k l, IsFrame (99 :: t) k l → e = .returned (.tuple #[.agg (arr 2 (ov k l)), .bool true])) ∧ (¬ isFrame (99 :: t) → e = .returned (.tuple #[.agg (arr 2 (ov 0 [])), .bool false])) ∧ Below w.heap.size w w' := by
  have T0 := Lib.hid (QP.start w)
  have T1 := Lib.hid T0.out.zero
  have ix : ∀ W : World, (Instr.index 9 (.string (bs (99 :: t))) (.int .i64 0)).run Try.prog W = .ok (.int .u8 99) W := fun W => idx_bs (99 :: t) 0 (by simp) W
  have hz := bs_size (99 :: t)
  rw [List.length_cons] at hz
  have ex : (bs (99 :: t)).extract 1 (bs (99 :: t)).size = bs t := by
    rw [bs_extract]
    congr 1
    rw [bs_size]
    simp
  obtain ⟨b, p2, e2, h2⟩ : ∃ b p2 e2, rText 4096 t 0 0 = (b, p2, e2) := ⟨_, _, _, rfl⟩
  have HRF := Lib.hid (qread_frame (c := 99) h2 (by decide))
  rw [show kix 99 = 3 by decide] at HRF
  have C1 : Hid (∀ W r, Rq W r t 0 0 → Calls Try.prog 17 #[.pointer (some ⟨r, 0, none⟩), .int .i64 4096] W fun u w' => u = .returned (.string (bs b)) ∧ Rq w' r t p2 e2 ∧ Keep (fun k => k ≠ r) W w') := fun W r h => by
    have := qtext_any 4096 h (Nat.zero_le _) (by omega)
    rw [h2] at this; exact this
  obtain ⟨q, hq⟩ : ∃ q, q = endOf t.length p2 e2 := ⟨_, rfl⟩
  have HE : Hid (∀ W r, Rq W r t p2 e2 → Calls Try.prog 18 #[.pointer (some ⟨r, 0, none⟩)] W fun u w' => u = .returned (.int .i64 q) ∧ Below W.heap.size W w') := fun W r h => by rw [hq]; exact qend_any h
  rw [← hq] at HRF
  have HR : Hid (∀ W, Calls Try.prog 19 #[.agg (arr 2 (ov 3 b))] W fun e w' => e = .returned (.bool (decide (objOk 3 b))) ∧ Below W.heap.size W w') := fun W => qright_any 3 b W
  have sz : ((bs (99 :: t)).size : Int) = (t.length : Int) + 1 := by omega
  have sz0 : (((bs (99 :: t)).size : Int) == 0) = false := by rw [beq_eq_false_iff_ne]; omega
  have sz1 : (1 : Int) ≤ ((bs (99 :: t)).size : Int) := by omega
  clear hq h2 hz hf
  generalize bs (99 :: t) = sb at ix ex sz sz0 sz1 ⊢
  obtain ⟨sd, hsd⟩ : ∃ sd, sd = bs t := ⟨_, rfl⟩
  have SD := Lib.hid hsd
  rw [← hsd] at ex
  clear hsd sz
  go_enter Try.func6, Try.ntmps6
  go_upto_region 4 with (first | (refine wpList_val rfl _ _ (ex_build0 rfl (bd_zobj _)) ?_) | (refine wpList_store_blk rfl 24 (.tmp 4) (.tmp 10) rfl (w.heap.size + 1) 2 (ov 0 []) (ov 0 []) rfl rfl 24 T0.out.obj szObject (fun i _ => ov_one _ _ i) ?_))
  change Code.wp Try.prog _ _ _ (((w.alloc (.cells (arr 2 (ov 0 [])) 24)).alloc (.cells (arr 2 (ov 0 [])) 24)).setRow (w.heap.size + 1) (arr 2 (ov 0 [])))
  generalize ((w.alloc (.cells (arr 2 (ov 0 [])) 24)).alloc (.cells (arr 2 (ov 0 [])) 24)).setRow (w.heap.size + 1) (arr 2 (ov 0 [])) = w1 at T1 ⊢
  clear T0
  have c0 : w1.cell? ⟨w.heap.size + 1, 0, none⟩ = some (.int .i64 0) := T1.out.obj.cell 0 (by omega)
  have f0 : w1.frozen? ⟨w.heap.size + 1, 0, none⟩ = false := T1.out.obj.frozen 0
  have T2 := Lib.hid (T1.out.kind (k' := 3))
  clear T1
  go_upto_region 12 with fail
  clear c0 f0 ix
  generalize w1.setCell ⟨w.heap.size + 1, 0, none⟩ (.int .i64 3) = w2 at T2 ⊢
  have z2 := T2.out.size
  have T3 : Hid (QO w t 3 [] 0 0 (w2.alloc (.cells #[.string sd, .int .i64 0, .int .i64 0] 50))) := by
    rw [SD.out]; exact T2.out.reader t
  clear T2
  go_upto_region 13 with fail
  clear ex
  go_wp2_with fail
  refine (C1.out _ _ T3.out.rd).mono ?_
  rintro e w4 ⟨rfl, R4, K4⟩
  have T4 := Lib.hid (T3.out.call R4 K4)
  have c1 : w4.cell? ⟨w.heap.size + 1, 1, none⟩ = some (.string (bs [])) := T4.out.obj.cell 1 (by omega)
  have f1 : w4.frozen? ⟨w.heap.size + 1, 1, none⟩ = false := T4.out.obj.frozen 1
  have T5 := Lib.hid (T4.out.body (b' := b))
  clear R4 K4 T3 T4 C1
  generalize bs [] = sb0 at c1
  go_upto_region 14 with fail
  clear c1 f1
  generalize w4.setCell ⟨w.heap.size + 1, 1, none⟩ (.string (bs b)) = w5 at T5 ⊢
  by_cases h0 : q = 0
  · subst h0
    by_cases hok : objOk 3 b
    · have HF := Lib.hid (HRF.out.1 rfl hok)
      rw [decide_eq_true hok] at HR
      clear hok
      refine wp_region_lit ?_
      refine wpList_valS (v := ?_) (by kernel_rfl) ?_ ?_
      rotate_left 1
      · (go_simp; try with_reducible rfl)
      try simp only [Act.put, List.setIfInBounds_toArray, List.set_cons_zero, List.set_cons_succ]
      refine wpList_callG (by kernel_rfl) fun K hK => ?_
      go_simp
      refine (HE.out _ _ T5.out.rd).mono ?_
      rintro e w7 ⟨rfl, hB7⟩
      refine hK _ _ ?_
      clear hK K
      try simp only [Act.put, List.setIfInBounds_toArray, List.set_cons_zero, List.set_cons_succ]
      have T7 := Lib.hid (T5.out.below hB7)
      clear hB7 T5 HE
      refine wpList_valS (v := ?_) (by kernel_rfl) ?_ ?_
      rotate_left 1
      · (go_simp; try with_reducible rfl)
      try simp only [Act.put, List.setIfInBounds_toArray, List.set_cons_zero, List.set_cons_succ]
      refine wpList_valS (v := ?_) (by kernel_rfl) ?_ ?_
      rotate_left 1
      · (go_simp; try with_reducible rfl)
      try simp only [Act.put, List.setIfInBounds_toArray, List.set_cons_zero, List.set_cons_succ]
      refine wpList_valG (by kernel_rfl) (ex_load 24 (.tmp 4) rfl (w.heap.size + 1) 0 2 (ov 3 b) rfl Try.underlying24 rfl szObject T7.out.obj.at0) ?_
      try simp only [Act.put, List.setIfInBounds_toArray, List.set_cons_zero, List.set_cons_succ]
      refine wpList_callG (by kernel_rfl) fun K hK => ?_
      go_simp
      refine (HR.out _).mono ?_
      rintro e w8 ⟨rfl, hB8⟩
      refine hK _ _ ?_
      clear hK K
      try simp only [Act.put, List.setIfInBounds_toArray, List.set_cons_zero, List.set_cons_succ]
      have T8 := Lib.hid (T7.out.below hB8)
      clear hB8 T7 HR
      refine wpList_valS (v := ?_) (by kernel_rfl) ?_ ?_
      rotate_left 1
      · (go_simp; try with_reducible rfl)
      try simp only [Act.put, List.setIfInBounds_toArray, List.set_cons_zero, List.set_cons_succ]
      refine wpList_valS (v := ?_) (by kernel_rfl) ?_ ?_
      rotate_left 1
      · (go_simp; try with_reducible rfl)
      try simp only [Act.put, List.setIfInBounds_toArray, List.set_cons_zero, List.set_cons_succ]
      refine wpList_nil ?_
      go_upto_region 16 with fail
      refine wp_region_lit ?_
      refine wpList_valG (by kernel_rfl) (ex_load 24 (.tmp 4) rfl (w.heap.size + 1) 0 2 (ov 3 b) rfl Try.underlying24 rfl szObject T8.out.obj.at0) ?_
      try simp only [Act.put, List.setIfInBounds_toArray, List.set_cons_zero, List.set_cons_succ]
      refine wpList_unitG (by kernel_rfl) (ex_store 24 (.tmp 2) (.tmp 39) rfl w.heap.size 0 2 (ov 3 b) rfl rfl (T8.out.res.there 0 2 (by omega)) szObject (fun i _ => ov_one _ _ i)) ?_
      try simp only [Act.put, List.setIfInBounds_toArray, List.set_cons_zero, List.set_cons_succ]
      refine wpList_valS (v := ?_) (by kernel_rfl) ?_ ?_
      rotate_left 1
      · (go_simp; try with_reducible rfl)
      try simp only [Act.put, List.setIfInBounds_toArray, List.set_cons_zero, List.set_cons_succ]
      refine wpList_nil ?_
      have B9 := T8.out.res.over (ov 3 b)
      have KZ := keep_setCells (b := w.heap.size) (arr 2 (ov 3 b)).toList 0 w8
      have G9 : Hid (Below w.heap.size w (w8.setCells w.heap.size 0 (arr 2 (ov 3 b)).toList)) := (T8.out.keep.trans (KZ.mono fun b hb _ => by omega)).below (Nat.le_refl _)
      clear T8 KZ
      generalize w8.setCells w.heap.size 0 (arr 2 (ov 3 b)).toList = w10 at B9 G9 ⊢
      go_wp2
      exact bodyPost_ret (results_blk2 rfl _ _ w.heap.size 24 2 (ov 3 b) B9 _ rfl Try.underlying24 rfl szObject) rfl ⟨fun k l h => (by
        obtain ⟨_, g1, g2⟩ := HRF.out.2 k l h
        rw [← g1, ← g2]; rfl), fun h => absurd ⟨_, _, HF.out⟩ h, G9.out⟩
    · have NF : Hid (¬ isFrame (99 :: t)) := fun ⟨k, l, h⟩ => by
        obtain ⟨_, g1, g2⟩ := HRF.out.2 k l h
        exact hok (by rw [g1, g2]; exact h.1)
      rw [decide_eq_false hok] at HR
      clear hok
      refine wp_region_lit ?_
      refine wpList_valS (v := ?_) (by kernel_rfl) ?_ ?_
      rotate_left 1
      · (go_simp; try with_reducible rfl)
      try simp only [Act.put, List.setIfInBounds_toArray, List.set_cons_zero, List.set_cons_succ]
      refine wpList_callG (by kernel_rfl) fun K hK => ?_
      go_simp
      refine (HE.out _ _ T5.out.rd).mono ?_
      rintro e w7 ⟨rfl, hB7⟩
      refine hK _ _ ?_
      clear hK K
      try simp only [Act.put, List.setIfInBounds_toArray, List.set_cons_zero, List.set_cons_succ]
      have T7 := Lib.hid (T5.out.below hB7)
      clear hB7 T5 HE
      refine wpList_valS (v := ?_) (by kernel_rfl) ?_ ?_
      rotate_left 1
      · (go_simp; try with_reducible rfl)
      try simp only [Act.put, List.setIfInBounds_toArray, List.set_cons_zero, List.set_cons_succ]
      refine wpList_valS (v := ?_) (by kernel_rfl) ?_ ?_
      rotate_left 1
      · (go_simp; try with_reducible rfl)
      try simp only [Act.put, List.setIfInBounds_toArray, List.set_cons_zero, List.set_cons_succ]
      refine wpList_valG (by kernel_rfl) (ex_load 24 (.tmp 4) rfl (w.heap.size + 1) 0 2 (ov 3 b) rfl Try.underlying24 rfl szObject T7.out.obj.at0) ?_
      try simp only [Act.put, List.setIfInBounds_toArray, List.set_cons_zero, List.set_cons_succ]
      refine wpList_callG (by kernel_rfl) fun K hK => ?_
      go_simp
      refine (HR.out _).mono ?_
      rintro e w8 ⟨rfl, hB8⟩
      refine hK _ _ ?_
      clear hK K
      try simp only [Act.put, List.setIfInBounds_toArray, List.set_cons_zero, List.set_cons_succ]
      have T8 := Lib.hid (T7.out.below hB8)
      clear hB8 T7 HR
      refine wpList_valS (v := ?_) (by kernel_rfl) ?_ ?_
      rotate_left 1
      · (go_simp; try with_reducible rfl)
      try simp only [Act.put, List.setIfInBounds_toArray, List.set_cons_zero, List.set_cons_succ]
      refine wpList_valS (v := ?_) (by kernel_rfl) ?_ ?_
      rotate_left 1
      · (go_simp; try with_reducible rfl)
      try simp only [Act.put, List.setIfInBounds_toArray, List.set_cons_zero, List.set_cons_succ]
      refine wpList_nil ?_
      go_upto_region 15 with fail
      refine wp_region_lit ?_
      refine wpList_valG (by kernel_rfl) (ex_build0 rfl (bd_zobj _)) ?_
      try simp only [Act.put, List.setIfInBounds_toArray, List.set_cons_zero, List.set_cons_succ]
      refine wpList_unitG (by kernel_rfl) (ex_store 24 (.tmp 2) (.tmp 38) rfl w.heap.size 0 2 (ov 0 []) rfl rfl (T8.out.res.there 0 2 (by omega)) szObject (fun i _ => ov_one _ _ i)) ?_
      try simp only [Act.put, List.setIfInBounds_toArray, List.set_cons_zero, List.set_cons_succ]
      refine wpList_valS (v := ?_) (by kernel_rfl) ?_ ?_
      rotate_left 1
      · (go_simp; try with_reducible rfl)
      try simp only [Act.put, List.setIfInBounds_toArray, List.set_cons_zero, List.set_cons_succ]
      refine wpList_nil ?_
      have B9 := T8.out.res.over (ov 0 [])
      have KZ := keep_setCells (b := w.heap.size) (arr 2 (ov 0 [])).toList 0 w8
      have G9 : Hid (Below w.heap.size w (w8.setCells w.heap.size 0 (arr 2 (ov 0 [])).toList)) := (T8.out.keep.trans (KZ.mono fun b hb _ => by omega)).below (Nat.le_refl _)
      clear T8 KZ
      generalize w8.setCells w.heap.size 0 (arr 2 (ov 0 [])).toList = w10 at B9 G9 ⊢
      go_wp2
      exact bodyPost_ret (results_blk2 rfl _ _ w.heap.size 24 2 (ov 0 []) B9 _ rfl Try.underlying24 rfl szObject) rfl ⟨fun k l h => absurd ⟨k, l, h⟩ NF.out, fun _ => rfl, G9.out⟩
  · have d0 : (q != 0) = true := by simpa using h0
    have NF : Hid (¬ isFrame (99 :: t)) := fun ⟨k, l, h⟩ => h0 (HRF.out.2 k l h).1
    clear h0
    refine wp_region_lit ?_
    refine wpList_valS (v := ?_) (by kernel_rfl) ?_ ?_
    rotate_left 1
    · (go_simp; try with_reducible rfl)
    try simp only [Act.put, List.setIfInBounds_toArray, List.set_cons_zero, List.set_cons_succ]
    refine wpList_callG (by kernel_rfl) fun K hK => ?_
    go_simp
    refine (HE.out _ _ T5.out.rd).mono ?_
    rintro e w8 ⟨rfl, hB7⟩
    refine hK _ _ ?_
    clear hK K
    try simp only [Act.put, List.setIfInBounds_toArray, List.set_cons_zero, List.set_cons_succ]
    have T8 := Lib.hid (T5.out.below hB7)
    clear hB7 T5 HE
    refine wpList_valS (v := ?_) (by kernel_rfl) ?_ ?_
    rotate_left 1
    · (go_simp; try with_reducible rfl)
    try simp only [Act.put, List.setIfInBounds_toArray, List.set_cons_zero, List.set_cons_succ]
    refine wpList_valS (v := ?_) (by kernel_rfl) ?_ ?_
    rotate_left 1
    · (go_simp; try with_reducible rfl)
    try simp only [Act.put, List.setIfInBounds_toArray, List.set_cons_zero, List.set_cons_succ]
    refine wpList_skipG (by kernel_rfl) ?_
    try simp only [Act.put, List.setIfInBounds_toArray, List.set_cons_zero, List.set_cons_succ]
    refine wpList_skipG (by kernel_rfl) ?_
    try simp only [Act.put, List.setIfInBounds_toArray, List.set_cons_zero, List.set_cons_succ]
    refine wpList_skipG (by kernel_rfl) ?_
    try simp only [Act.put, List.setIfInBounds_toArray, List.set_cons_zero, List.set_cons_succ]
    refine wpList_valS (v := ?_) (by kernel_rfl) ?_ ?_
    rotate_left 1
    · (go_simp; try with_reducible rfl)
    try simp only [Act.put, List.setIfInBounds_toArray, List.set_cons_zero, List.set_cons_succ]
    refine wpList_nil ?_
    go_upto_region 15 with fail
    refine wp_region_lit ?_
    refine wpList_valG (by kernel_rfl) (ex_build0 rfl (bd_zobj _)) ?_
    try simp only [Act.put, List.setIfInBounds_toArray, List.set_cons_zero, List.set_cons_succ]
    refine wpList_unitG (by kernel_rfl) (ex_store 24 (.tmp 2) (.tmp 38) rfl w.heap.size 0 2 (ov 0 []) rfl rfl (T8.out.res.there 0 2 (by omega)) szObject (fun i _ => ov_one _ _ i)) ?_
    try simp only [Act.put, List.setIfInBounds_toArray, List.set_cons_zero, List.set_cons_succ]
    refine wpList_valS (v := ?_) (by kernel_rfl) ?_ ?_
    rotate_left 1
    · (go_simp; try with_reducible rfl)
    try simp only [Act.put, List.setIfInBounds_toArray, List.set_cons_zero, List.set_cons_succ]
    refine wpList_nil ?_
    have B9 := T8.out.res.over (ov 0 [])
    have KZ := keep_setCells (b := w.heap.size) (arr 2 (ov 0 [])).toList 0 w8
    have G9 : Hid (Below w.heap.size w (w8.setCells w.heap.size 0 (arr 2 (ov 0 [])).toList)) := (T8.out.keep.trans (KZ.mono fun b hb _ => by omega)).below (Nat.le_refl _)
    clear T8 KZ
    generalize w8.setCells w.heap.size 0 (arr 2 (ov 0 [])).toList = w10 at B9 G9 ⊢
    go_wp2
    exact bodyPost_ret (results_blk2 rfl _ _ w.heap.size 24 2 (ov 0 []) B9 _ rfl Try.underlying24 rfl szObject) rfl ⟨fun k l h => absurd ⟨k, l, h⟩ NF.out, fun _ => rfl, G9.out⟩
set_option maxHeartbeats 4000000 in
set_option maxRecDepth 100000 in
theorem qread_nil (w : World) : Calls Try.prog 6 #[.string (bs [])] w fun e w' => e = .returned (.tuple #[.agg (arr 2 (ov 0 [])), .bool false]) ∧ Below w.heap.size w w' := by
  have BZ := Lib.hid (Blk.newAt _ (heap_alloc_new w (.cells (arr 2 (ov 0 [])) 24)) rfl : Blk (w.alloc (.cells (arr 2 (ov 0 [])) 24)) w.heap.size 24 2 (ov 0 []))
  have L0 : Hid (Below w.heap.size w ((w.alloc (.cells (arr 2 (ov 0 [])) 24)).setCells w.heap.size 0 (arr 2 (ov 0 [])).toList)) :=
    (((Keep.refl (fun b => b < w.heap.size) w).alloc _).trans ((keep_setCells (b := w.heap.size) _ 0 _).mono fun b hb _ => by omega)).below (Nat.le_refl _)
  have sz : ((bs []).size : Int) = 0 := rfl
  generalize bs [] = sb at sz ⊢
  go_enter Try.func6, Try.ntmps6
  go_upto_region 2 with fail
  change Code.wp Try.prog _ _ _ (w.alloc (.cells (arr 2 (ov 0 [])) 24))
  refine wp_region_lit ?_
  refine wpList_valG (by kernel_rfl) (ex_build0 rfl (bd_zobj _)) ?_
  try simp only [Act.put, List.setIfInBounds_toArray, List.set_cons_zero, List.set_cons_succ]
  refine wpList_unitG (by kernel_rfl) (ex_store 24 (.tmp 2) (.tmp 9) rfl w.heap.size 0 2 (ov 0 []) rfl rfl (BZ.out.there 0 2 (by omega)) szObject (fun i _ => ov_one _ _ i)) ?_
  try simp only [Act.put, List.setIfInBounds_toArray, List.set_cons_zero, List.set_cons_succ]
  refine wpList_valS (v := ?_) (by kernel_rfl) ?_ ?_
  rotate_left 1
  · (go_simp; try with_reducible rfl)
  try simp only [Act.put, List.setIfInBounds_toArray, List.set_cons_zero, List.set_cons_succ]
  refine wpList_nil ?_
  have B9 := BZ.out.over (ov 0 [])
  generalize (w.alloc (.cells (arr 2 (ov 0 [])) 24)).setCells w.heap.size 0 (arr 2 (ov 0 [])).toList = w10 at B9 L0 ⊢
  go_wp2
  exact bodyPost_ret (results_blk2 rfl _ _ w.heap.size 24 2 (ov 0 []) B9 _ rfl Try.underlying24 rfl szObject) rfl ⟨rfl, L0.out⟩
set_option maxHeartbeats 4000000 in
set_option maxRecDepth 100000 in
theorem qread_other (c : UInt8) (t : List UInt8) (w : World) (hf : t.length ≤ 6000) (h1 : c ≠ 98) (h2 : c ≠ 116) (h3 : c ≠ 99) : Calls Try.prog 6 #[.string (bs (c :: t))] w fun e w' => e = .returned (.tuple #[.agg (arr 2 (ov 0 [])), .bool false]) ∧ Below w.heap.size w w' := by
  have T0 := Lib.hid (QP.start w)
  have T1 := Lib.hid T0.out.zero
  have hz := bs_size (c :: t)
  rw [List.length_cons] at hz
  obtain ⟨x, hx⟩ : ∃ x, x = c.toNat := ⟨_, rfl⟩
  have ix : ∀ W : World, (Instr.index 9 (.string (bs (c :: t))) (.int .i64 0)).run Try.prog W = .ok (.int .u8 (x : Int)) W := fun W => by rw [hx]; exact idx_bs (c :: t) 0 (by simp) W
  have e1 : ((x : Int) == 98) = false := by rw [beq_eq_false_iff_ne]; intro h; exact h1 (UInt8.toNat_inj.1 (by rw [← hx]; show x = 98; omega))
  have e2 : ((x : Int) == 116) = false := by rw [beq_eq_false_iff_ne]; intro h; exact h2 (UInt8.toNat_inj.1 (by rw [← hx]; show x = 116; omega))
  have e3 : ((x : Int) == 99) = false := by rw [beq_eq_false_iff_ne]; intro h; exact h3 (UInt8.toNat_inj.1 (by rw [← hx]; show x = 99; omega))
  have sz0 : (((bs (c :: t)).size : Int) == 0) = false := by rw [beq_eq_false_iff_ne]; omega
  clear hz hx h1 h2 h3 hf
  generalize bs (c :: t) = sb at ix sz0 ⊢
  go_enter Try.func6, Try.ntmps6
  go_upto_region 4 with (first | (refine wpList_val rfl _ _ (ex_build0 rfl (bd_zobj _)) ?_) | (refine wpList_store_blk rfl 24 (.tmp 4) (.tmp 10) rfl (w.heap.size + 1) 2 (ov 0 []) (ov 0 []) rfl rfl 24 T0.out.obj szObject (fun i _ => ov_one _ _ i) ?_))
  change Code.wp Try.prog _ _ _ (((w.alloc (.cells (arr 2 (ov 0 [])) 24)).alloc (.cells (arr 2 (ov 0 [])) 24)).setRow (w.heap.size + 1) (arr 2 (ov 0 [])))
  generalize ((w.alloc (.cells (arr 2 (ov 0 [])) 24)).alloc (.cells (arr 2 (ov 0 [])) 24)).setRow (w.heap.size + 1) (arr 2 (ov 0 [])) = w8 at T1 ⊢
  clear T0
  have T8 := T1
  clear T1
  go_upto_region 5 with fail
  refine wp_region_lit ?_
  refine wpList_valG (by kernel_rfl) (ex_build0 rfl (bd_zobj _)) ?_
  try simp only [Act.put, List.setIfInBounds_toArray, List.set_cons_zero, List.set_cons_succ]
  refine wpList_unitG (by kernel_rfl) (ex_store 24 (.tmp 2) (.tmp 13) rfl w.heap.size 0 2 (ov 0 []) rfl rfl (T8.out.res.there 0 2 (by omega)) szObject (fun i _ => ov_one _ _ i)) ?_
  try simp only [Act.put, List.setIfInBounds_toArray, List.set_cons_zero, List.set_cons_succ]
  refine wpList_valS (v := ?_) (by kernel_rfl) ?_ ?_
  rotate_left 1
  · (go_simp; try with_reducible rfl)
  try simp only [Act.put, List.setIfInBounds_toArray, List.set_cons_zero, List.set_cons_succ]
  refine wpList_nil ?_
  have B9 := T8.out.res.over (ov 0 [])
  have KZ := keep_setCells (b := w.heap.size) (arr 2 (ov 0 [])).toList 0 w8
  have G9 : Hid (Below w.heap.size w (w8.setCells w.heap.size 0 (arr 2 (ov 0 [])).toList)) := (T8.out.keep.trans (KZ.mono fun b hb _ => by omega)).below (Nat.le_refl _)
  clear T8 KZ
  generalize w8.setCells w.heap.size 0 (arr 2 (ov 0 [])).toList = w10 at B9 G9 ⊢
  go_wp2
  exact bodyPost_ret (results_blk2 rfl _ _ w.heap.size 24 2 (ov 0 []) B9 _ rfl Try.underlying24 rfl szObject) rfl ⟨rfl, G9.out⟩
theorem qread_any (f : List UInt8) (w : World) (hf : f.length ≤ 6000) :
    Calls Try.prog 6 #[.string (bs f)] w fun e w' => (∀ k l, IsFrame f k l → e = .returned (.tuple #[.agg (arr 2 (ov k l)), .bool true])) ∧ (¬ isFrame f → e = .returned (.tuple #[.agg (arr 2 (ov 0 [])), .bool false])) ∧ Below w.heap.size w w' := by
  cases f with
  | nil => exact (qread_nil w).mono fun e w' h => ⟨fun k l g => absurd ⟨k, l, g⟩ no_frame_nil, fun _ => h.1, h.2⟩
  | cons c t =>
    rw [List.length_cons] at hf
    by_cases h1 : c = 98
    · subst h1; exact qread_1 t w (by omega)
    · by_cases h2 : c = 116
      · subst h2; exact qread_2 t w (by omega)
      · by_cases h3 : c = 99
        · subst h3; exact qread_3 t w (by omega)
        · refine (qread_other c t w (by omega) h1 h2 h3).mono fun e w' h => ⟨fun k l g => absurd ⟨k, l, g⟩ (no_frame_kix ?_), fun _ => h.1, h.2⟩
          unfold kix
          rw [if_neg h1, if_neg h2, if_neg h3]
end Go.Proofs.Ytlbclfponongbaa
