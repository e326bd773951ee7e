import Derived.Test.YtlbclfponongbaaGreatDoorQ4m
/- The document's answer: the entries of a body. -/
namespace Go.Proofs.YtlbclfponongbaaGreatDoor
open Go.RowKit Classical
theorem bd_zero (w : World) : (Instr.build 56 #[]).run Tryz.prog w = .ok (.agg (arr 34 (ev ⟨[], 0, fun _ => 0⟩))) w := by kernel_rfl
theorem ev_kind (n : List UInt8) (k k' : Int) (f : Nat → UInt8) (j : Nat) : (if j = 1 then Value.int .i64 k' else ev ⟨n, k, f⟩ j) = ev ⟨n, k', f⟩ j := by
  unfold ev
  by_cases c : j = 0
  · subst c; rfl
  · by_cases d : j = 1
    · rw [if_pos d, if_neg c, if_pos d]
    · rw [if_neg d, if_neg c, if_neg c, if_neg d, if_neg d]
theorem ev_name (n n' : List UInt8) (k : Int) (f : Nat → UInt8) (j : Nat) : (if j = 0 then Value.string (bs n') else ev ⟨n, k, f⟩ j) = ev ⟨n', k, f⟩ j := by
  unfold ev
  by_cases c : j = 0
  · rw [if_pos c, if_pos c]
  · rw [if_neg c, if_neg c, if_neg c]
theorem ev_idset (n : List UInt8) (k : Int) (f f' : Nat → UInt8) (j : Nat) (hj : j < 34) : (if 2 ≤ j ∧ j < 2 + (arr 32 (bv f')).toList.length then (arr 32 (bv f')).toList.getD (j - 2) undef else ev ⟨n, k, f⟩ j) = ev ⟨n, k, f'⟩ j := by
  rw [Array.length_toList, arr_size]
  by_cases c : 2 ≤ j
  · rw [if_pos ⟨c, by omega⟩, List.getD_eq_getElem?_getD, Array.getElem?_toList, arr_get _ _ _ (by omega)]
    unfold ev
    rw [if_neg (by omega), if_neg (by omega)]
    rfl
  · rw [if_neg (fun h => c h.1)]
    unfold ev
    by_cases d : j = 0
    · rw [if_pos d, if_pos d]
    · have e : j = 1 := by omega
      rw [if_neg d, if_neg d, if_pos e, if_pos e]
theorem rqM_of {w : World} {r : Nat} {l : List UInt8} {p : Nat} {e : Int} (h : Rq w r l p e) (n : Nat) : rdM n w r = if e = 0 then n + 1 - p else 0 := by
  unfold rdM
  rw [h.cells.2.1, h.cells.2.2.1]
  simp
/- what holds in the loop: r the reader -/
structure QS (r : Nat) (w0 : World) (l : List UInt8) (es : Nat → Ent) (k : Nat) (v : Value) (p : Nat) (e : Int) (w : World) : Prop where
  keep : Keep (fun b => b < w0.heap.size) w0 w
  row : w.ownsRow w0.heap.size 56 34 v k (arr (k * 34) (ec es)).toList
  rd : Rq w r l p e
  pi : PI l es k p e
  apart : v.ownBlock ≠ some r
/- within a round: x the block of the entry -/
structure QX (r x : Nat) (wr : World) (l : List UInt8) (f : Ent) (p : Nat) (e : Int) (w : World) : Prop where
  keep : Keep (fun b => b ≠ r ∧ b ≠ x) wr w
  blk : Blk w x 56 34 (ev f)
  rd : Rq w r l p e
theorem QX.start {r : Nat} {wr : World} {l : List UInt8} {p : Nat} {e : Int} (h : Rq wr r l p e) : QX r wr.heap.size wr l ⟨[], 0, fun _ => 0⟩ p e (wr.alloc (.cells (arr 34 (ev ⟨[], 0, fun _ => 0⟩)) 56)) :=
  ⟨(Keep.refl _ wr).alloc _, Blk.newAt _ (heap_alloc_new _ _) rfl, h.keep ((Keep.refl (fun _ => True) wr).alloc _) trivial⟩
theorem QX.call {r x : Nat} {wr w w' : World} {l : List UInt8} {f : Ent} {p p' : Nat} {e e' : Int} (h : QX r x wr l f p e w) (hx : x ≠ r) (g : Rq w' r l p' e') (k : Keep (fun k => k ≠ r) w w') : QX r x wr l f p' e' w' :=
  ⟨h.keep.trans (k.mono fun b hb _ => hb.1), k.blk hx h.blk, g⟩
theorem QX.kind {r x : Nat} {wr w : World} {l n : List UInt8} {k k' : Int} {f : Nat → UInt8} {p : Nat} {e : Int} (h : QX r x wr l ⟨n, k, f⟩ p e w) (hx : x ≠ r) : QX r x wr l ⟨n, k', f⟩ p e (w.setCell ⟨x, 1, none⟩ (.int .i64 k')) :=
  ⟨h.keep.setCell (fun hh => hh.2 rfl) _, (h.blk.set 1 _).congr fun j _ => ev_kind _ _ _ _ _, h.rd.keep ((Keep.refl (fun b => b ≠ x) w).setCell (fun hh => hh rfl) _) (fun hh => hx hh.symm)⟩
theorem QX.name {r x : Nat} {wr w : World} {l n n' : List UInt8} {k : Int} {f : Nat → UInt8} {p : Nat} {e : Int} (h : QX r x wr l ⟨n, k, f⟩ p e w) (hx : x ≠ r) : QX r x wr l ⟨n', k, f⟩ p e (w.setCell ⟨x, 0, none⟩ (.string (bs n'))) :=
  ⟨h.keep.setCell (fun hh => hh.2 rfl) _, (h.blk.set 0 _).congr fun j _ => ev_name _ _ _ _ _, h.rd.keep ((Keep.refl (fun b => b ≠ x) w).setCell (fun hh => hh rfl) _) (fun hh => hx hh.symm)⟩
theorem QX.id {r x : Nat} {wr w : World} {l n : List UInt8} {k : Int} {f f' : Nat → UInt8} {p : Nat} {e : Int} (h : QX r x wr l ⟨n, k, f⟩ p e w) (hx : x ≠ r) : QX r x wr l ⟨n, k, f'⟩ p e (w.setCells x 2 (arr 32 (bv f')).toList) := by
  have KZ := keep_setCells (b := x) (arr 32 (bv f')).toList 2 w
  exact ⟨h.keep.trans (KZ.mono fun b hb _ => hb.2), (Blk.setCells (arr 32 (bv f')).toList 2 w _ h.blk).congr fun j hj => ev_idset _ _ _ _ _ hj, h.rd.keep KZ (fun hh => hx hh.symm)⟩
/- behind a round -/
theorem QS.next {r x : Nat} {w0 wr w8 w9 : World} {l : List UInt8} {es : Nat → Ent} {k p p3 g cap : Nat} {v : Value} {e3 : Int} {f : Ent} (hr : w0.heap.size ≤ r) (hxx : x = wr.heap.size) (h : QS r w0 l es k v p 0 wr) (q : QX r x wr l f p3 e3 w8)
    (ho : w9.ownsRow w0.heap.size 56 34 (.slice (some ⟨g, 0, none⟩) (k + 1) cap) (k + 1) (arr ((k + 1) * 34) (ec (upE es k f))).toList) (k9 : Keep (fun k => v.ownBlock ≠ some k) w8 w9) (hat : v.ownBlock = some g ∨ g = w8.heap.size + 1) (hpi : PI l (upE es k f) (k + 1) p3 e3) :
    QS r w0 l (upE es k f) (k + 1) (.slice (some ⟨g, 0, none⟩) (k + 1) cap) p3 e3 w9 := by
  have own : ∀ b, b < w0.heap.size → v.ownBlock ≠ some b := fun b hb h2 => by have := (own_lt h.row h2).1; omega
  have hs := h.keep.size
  have hr8 := q.rd.lt
  refine ⟨(h.keep.trans (q.keep.mono fun b hb hl => ⟨by omega, by omega⟩)).trans (k9.mono fun b hb _ => own b hb), ho, q.rd.keep k9 h.apart, hpi, ?_⟩
  simp [Value.ownBlock]
  rintro rfl
  rcases hat with hh | hh
  · exact h.apart hh
  · omega
theorem QS.below {r : Nat} {w0 w w' : World} {l : List UInt8} {es : Nat → Ent} {k : Nat} {v : Value} {p : Nat} {e : Int} (h : QS r w0 l es k v p e w) (hb : Below w.heap.size w w') : QS r w0 l es k v p e w' :=
  ⟨h.keep.trans (Keep.all hb), owns_all h.row hb, h.rd.keep (K := fun _ => True) (Keep.all hb) trivial, h.pi, h.apart⟩
theorem QS.grown {r : Nat} {w0 w : World} {l : List UInt8} {es : Nat → Ent} {k : Nat} {v : Value} {p : Nat} {e : Int} (h : QS r w0 l es k v p e w) : Below w0.heap.size w0 w := h.keep.below (Nat.le_refl _)
theorem neq_same (s : ByteArray) (w : World) : (binOp .neq 9 (.string s) (.string s)).run Tryz.prog w = .ok (.bool false) w := by go_simp
set_option maxHeartbeats 4000000 in
set_option maxRecDepth 100000 in
theorem qentries_any (l : List UInt8) (w : World) (hl : l.length ≤ 1000000) :
    Calls Tryz.prog 17 #[.string (bs l)] w fun e w' => ∃ es n v, e = .returned (.tuple #[v, .bool (decide (isTree l))]) ∧ Row w' v 34 (ec es) n ∧ (isTree l → IsTree l es n) ∧ Fresh w.heap.size v ∧ Below w.heap.size w w' := by
  have R0 : Hid (Rq (w.alloc (.cells #[.string (bs l), .int .i64 0, .int .i64 0] 74)) w.heap.size l 0 0) := heap_alloc_new _ _
  have T0 : Hid (QS w.heap.size w l (fun _ => default) 0 (.slice none 0 0) 0 0 (w.alloc (.cells #[.string (bs l), .int .i64 0, .int .i64 0] 74))) :=
    ⟨(Keep.refl _ w).alloc _, by rw [Nat.zero_mul]; exact World.ownsRow_nil _ _ _ _, R0.out, PI.zero _ _, fun h => by simp [Value.ownBlock] at h⟩
  obtain ⟨sb, hsb⟩ : ∃ sb, sb = bs l := ⟨_, rfl⟩
  have SB := Lib.hid hsb
  have SZ : Hid (sb.size = l.length) := by show _ = _; rw [hsb]; exact bs_size l
  rw [← hsb] at R0 T0 ⊢
  have HL : Hid (l.length ≤ 1000000) := hl
  clear hsb hl
  go_enter Tryz.func17, Tryz.ntmps17
  go_wp2
  generalize w.alloc (.cells #[.string sb, .int .i64 0, .int .i64 0] 74) = w1 at R0 T0 ⊢
  go_loopw [5] (fun u wr => ∃ es k v p e, v = u ∧ Hid (QS w.heap.size w l es k v p e wr)) (fun _ wr => rdM l.length wr w.heap.size)
  case atStart => exact ⟨_, _, _, _, _, rfl, T0⟩
  case round =>
    obtain ⟨es, k, v, p, e, rfl, hT⟩ := hrel
    clear T0 R0
    obtain ⟨c0, c1, c2, -, -⟩ := hT.out.rd.cells
    rw [← SB.out] at c0
    by_cases he : e = 0 ∧ p < l.length
    · obtain ⟨rfl, hp⟩ := he
      have HP := Lib.hid hp
      have M0 : Hid (rdM l.length wr w.heap.size = l.length + 1 - p) := by show _ = _; rw [rqM_of hT.out.rd, if_pos rfl]
      have yk : (p : Int) < (sb.size : Int) := by have := SZ.out; omega
      obtain ⟨n1, p1, e1, hn⟩ : ∃ n1 p1 e1, rNum 2 l p 0 = (n1, p1, e1) := ⟨_, _, _, rfl⟩
      obtain ⟨s2, p2, e2, ht⟩ : ∃ s2 p2 e2, rText 32 l p1 e1 = (s2, p2, e2) := ⟨_, _, _, rfl⟩
      obtain ⟨s3, p3, e3, hi⟩ : ∃ s3 p3 e3, rRaw 32 l p2 e2 = (s3, p3, e3) := ⟨_, _, _, rfl⟩
      have hstep := hT.out.pi.step hp hn ht hi
      have l1 : p1 ≤ l.length := by have := rNum_le 2 l p 0 hT.out.pi.le; rw [hn] at this; exact this
      have l2 : p2 ≤ l.length := by have := rText_le 32 l p1 e1 l1; rw [ht] at this; exact this
      have hl := HL.out
      have C1 : Hid (∀ W, Rq W w.heap.size l p 0 → Calls Tryz.prog 30 #[.pointer (some ⟨w.heap.size, 0, none⟩), .int .i64 2] W fun u w' => u = .returned (.int .i64 n1) ∧ Rq w' w.heap.size l p1 e1 ∧ Keep (fun k => k ≠ w.heap.size) W w') := fun W h => by
        have := qnum_any 2 h hT.out.pi.le (by omega)
        rw [hn] at this; exact this
      have C2 : Hid (∀ W, Rq W w.heap.size l p1 e1 → Calls Tryz.prog 31 #[.pointer (some ⟨w.heap.size, 0, none⟩), .int .i64 32] W fun u w' => u = .returned (.string (bs s2)) ∧ Rq w' w.heap.size l p2 e2 ∧ Keep (fun k => k ≠ w.heap.size) W w') := fun W h => by
        have := qtext_any 32 h l1 (by omega)
        rw [ht] at this; exact this
      have C3 : Hid (∀ W, Rq W w.heap.size l p2 e2 → Calls Tryz.prog 32 #[.pointer (some ⟨w.heap.size, 0, none⟩)] W fun u w' => u = .returned (.agg (arr 32 (bv (idOf s3)))) ∧ Rq w' w.heap.size l p3 e3 ∧ Keep (fun k => k ≠ w.heap.size) W w') := fun W h => by
        have := qid_any h l2 (by omega)
        rw [hi] at this; exact this
      have few := hT.out.pi.few
      have FEW : Hid (k + 1 ≤ 100000) := by show k + 1 ≤ 100000; omega
      have ST := Lib.hid hstep
      have XR : Hid (wr.heap.size ≠ w.heap.size) := by have := hT.out.rd.lt; show _ ≠ _; omega
      have X0 := Lib.hid (QX.start hT.out.rd)
      clear hn ht hi hstep l1 l2 hl few hp
      go_upto_region 5 with (first | (refine wpList_val rfl _ _ (ex_build (t := 56) (parts := #[]) rfl rfl (bd_zero wr)) ?_) | (refine wpList_store_blk rfl 56 (.tmp 6) (.tmp 24) rfl wr.heap.size 34 (ev ⟨[], 0, fun _ => 0⟩) (ev ⟨[], 0, fun _ => 0⟩) rfl rfl 56 (Blk.newAt _ (heap_alloc_new _ _) rfl) szEntry (fun i _ => ev_one _ i) ?_))
      rw [World.setRow_alloc_new]
      clear c0 c1 c2
      generalize wr.alloc (.cells (arr 34 (ev ⟨[], 0, fun _ => 0⟩)) 56) = w2 at X0 ⊢
      generalize hx : wr.heap.size = x at X0 XR ⊢
      have HX := Lib.hid hx.symm
      clear hx
      go_wp2_with fail
      refine (C1.out _ X0.out.rd).mono ?_
      rintro e w3 ⟨rfl, R3, K3⟩
      have X3 := Lib.hid (X0.out.call XR.out R3 K3)
      have c1 : w3.cell? ⟨x, 1, none⟩ = some (.int .i64 0) := X3.out.blk.cell 1 (by omega)
      have f1 : w3.frozen? ⟨x, 1, none⟩ = false := X3.out.blk.frozen 1
      have X4 := Lib.hid (X3.out.kind (k' := (n1 : Int)) XR.out)
      clear R3 K3 X0 X3 C1
      go_upto_region 6 with fail
      clear c1 f1
      generalize w3.setCell ⟨x, 1, none⟩ (.int .i64 (n1 : Int)) = w4 at X4 ⊢
      go_wp2_with fail
      refine (C2.out _ X4.out.rd).mono ?_
      rintro e w5 ⟨rfl, R3, K3⟩
      have X5 := Lib.hid (X4.out.call XR.out R3 K3)
      have c1 : w5.cell? ⟨x, 0, none⟩ = some (.string (bs [])) := X5.out.blk.cell 0 (by omega)
      have f1 : w5.frozen? ⟨x, 0, none⟩ = false := X5.out.blk.frozen 0
      have X6 := Lib.hid (X5.out.name (n' := s2) XR.out)
      clear R3 K3 X4 X5 C2
      generalize bs [] = sb0 at c1
      go_upto_region 7 with fail
      clear c1 f1
      generalize w5.setCell ⟨x, 0, none⟩ (.string (bs s2)) = w6 at X6 ⊢
      refine wp_region_lit ?_
      refine wpList_valS (v := ?_) (by kernel_rfl) ?_ ?_
      rotate_left 1
      · (go_simp; try with_reducible rfl)
      try simp only [Act.put, List.setIfInBounds_toArray, List.set_cons_zero, List.set_cons_succ]
      refine wpList_callG (by kernel_rfl) fun K hK => ?_
      go_simp
      refine (C3.out _ X6.out.rd).mono ?_
      rintro e w7 ⟨rfl, R3, K3⟩
      refine hK _ _ ?_
      clear hK K
      try simp only [Act.put, List.setIfInBounds_toArray, List.set_cons_zero, List.set_cons_succ]
      have X7 := Lib.hid (X6.out.call XR.out R3 K3)
      clear R3 K3 X6 C3
      refine wpList_valG (by kernel_rfl) (ex_field fE2 (.tmp 6) rfl x 0 rfl) ?_
      try simp only [Act.put, List.setIfInBounds_toArray, List.set_cons_zero, List.set_cons_succ]
      refine wpList_unitG (by kernel_rfl) (ex_store 29 (.tmp 33) (.tmp 32) rfl x 2 32 (bv (idOf s3)) rfl rfl (X7.out.blk.there 2 32 (by omega)) sz30 (fun _ _ => rfl)) ?_
      try simp only [Act.put, List.setIfInBounds_toArray, List.set_cons_zero, List.set_cons_succ]
      have X8 := Lib.hid (X7.out.id (f' := idOf s3) XR.out)
      clear X7
      generalize w7.setCells x 2 (arr 32 (bv (idOf s3))).toList = w8 at X8 ⊢
      refine wpList_nil ?_
      go_upto_region 8 with fail
      have HO : w8.ownsRow w.heap.size 56 34 v k (arr (k * 34) (ec (upE es k ⟨s2, n1, idOf s3⟩))).toList ∧ w.heap.size ≤ w8.heap.size := by
        refine ⟨owns_congr (owns_keep hT.out.row X8.out.keep fun g hg => ⟨fun h => hT.out.apart (h ▸ hg), fun h => ?_⟩) (by rw [ec_up]), Nat.le_trans hT.out.keep.size X8.out.keep.size⟩
        have := (own_lt hT.out.row hg).2
        have := HX.out
        omega
      obtain ⟨g, cap, w9, hap, ho9, k9, hat⟩ := app_own tEntries iEntry (arr_size 34 _) (by decide) (by decide) (arr 34 (ev ⟨s2, n1, idOf s3⟩)) (arr_congr fun j hj => (by rw [ec_at _ _ _ hj, upE_same] : ev ⟨s2, n1, idOf s3⟩ j = ec (upE es k ⟨s2, n1, idOf s3⟩) (k * 34 + j))) (fun j => ev_one _ _) HO.1 HO.2 FEW.out
      have N := Lib.hid (QS.next (Nat.le_refl _) HX.out hT.out X8.out ho9 k9 hat ST.out.1)
      clear ho9 k9 hat HO
      refine wp_region_lit ?_
      refine wpList_valS (v := ?_) (by kernel_rfl) ?_ ?_
      rotate_left 1
      · (go_simp; try with_reducible rfl)
      try simp only [Act.put, List.setIfInBounds_toArray, List.set_cons_zero, List.set_cons_succ]
      refine wpList_valG (by kernel_rfl) (ex_load 56 (.tmp 6) rfl x 0 34 (ev ⟨s2, n1, idOf s3⟩) rfl Tryz.underlying56 rfl szEntry X8.out.blk.at0) ?_
      try simp only [Act.put, List.setIfInBounds_toArray, List.set_cons_zero, List.set_cons_succ]
      refine wpList_valG (by kernel_rfl) (ex_bslice 32 56 (.tmp 35) rfl 34 (ev ⟨s2, n1, idOf s3⟩) rfl tEntries zEntry (by decide) (by decide)) ?_
      try simp only [Act.put, List.setIfInBounds_toArray, List.set_cons_zero, List.set_cons_succ]
      refine wpList_valG (by kernel_rfl) (ex_append (.tmp 34) (.tmp 36) 32 32 rfl rfl rfl hap) ?_
      try simp only [Act.put, List.setIfInBounds_toArray, List.set_cons_zero, List.set_cons_succ]
      refine wpList_valS (v := ?_) (by kernel_rfl) ?_ ?_
      rotate_left 1
      · (go_simp; try with_reducible rfl)
      try simp only [Act.put, List.setIfInBounds_toArray, List.set_cons_zero, List.set_cons_succ]
      refine wpList_nil ?_
      have M1 : Hid (rdM l.length w9 w.heap.size < rdM l.length wr w.heap.size) := by
        show _ < _
        rw [rqM_of N.out.rd, M0.out]
        have h1 := HP.out
        have h2 := ST.out.2
        split
        · rename_i h3; have := h2 h3; omega
        · omega
      clear hap X8 hT
      go_wp2
      go_roundw
      case rel => exact ⟨_, _, _, _, _, rfl, N⟩
      case measure => exact M1.out
    · have h5 : endOf l.length p e ≠ 5 := by
        unfold endOf
        split
        · exact hT.out.pi.five
        · split
          · rename_i a b; exact absurd ⟨by omega, b⟩ he
          · decide
      have PE := Lib.hid (hT.out.pi.end h5)
      obtain ⟨q, hq⟩ : ∃ q, q = endOf l.length p e := ⟨_, rfl⟩
      have HE := Lib.hid (fun W (h : Rq W w.heap.size l p e) => qend_any h)
      rw [← hq] at HE PE
      clear h5 hq
      have ways : (e ≠ 0 ∧ (e == 0) = false) ∨ (e = 0 ∧ (sb.size : Int) ≤ (p : Int)) := by
        by_cases c : e = 0
        · right; refine ⟨c, ?_⟩
          have : ¬ p < l.length := fun h => he ⟨c, h⟩
          have := SZ.out
          omega
        · left; exact ⟨c, by simpa using c⟩
      clear he
      rcases ways with ⟨w1', w2'⟩ | ⟨rfl, w2'⟩
      all_goals
        go_wp2_with fail
        refine (HE.out _ hT.out.rd).mono ?_
        rintro e2 w2 ⟨rfl, hB2⟩
        have T2 := Lib.hid (hT.out.below hB2)
        clear hB2 HE hT c0 c1 c2 w2'
        by_cases h0 : q = 0
        · subst h0
          have few : Hid (k ≤ 140737488355328) := by show k ≤ _; have := T2.out.pi.cnt; have := HL.out; omega
          have HO := qents_any es v k w2 (owns_row T2.out.row) few.out (fun i hi => by have := T2.out.pi.names i hi; omega)
          by_cases ht : isTree l
          · have hok : entsOk es k := (PE.out.1.2 ht).2
            have IT := Lib.hid (PE.out.2 rfl hok)
            rw [decide_eq_true hok] at HO
            have HTB := Lib.hid (fun (W : World) (h : Row W v 34 (ec es) k) => treebody_any es v k W h hok.1 (fun i hi => (hok.2.1 i hi).1.2.1))
            rw [← IT.out.2, ← SB.out] at HTB
            have HT := Lib.hid ht
            clear few hok ht PE
            go_wp2_with fail
            refine HO.mono ?_
            rintro e2 w3 ⟨rfl, hB3⟩
            have T3 := Lib.hid (T2.out.below hB3)
            clear hB3 HO T2
            go_wp2_with fail
            refine (HTB.out _ (owns_row T3.out.row)).mono ?_
            rintro e2 w4 ⟨rfl, hB4⟩
            have T4 := Lib.hid (T3.out.below hB4)
            clear hB4 HTB T3
            go_wp2
            go_ret2
            exact ⟨es, k, v, by rw [decide_eq_true HT.out]; rfl, owns_row T4.out.row, fun _ => IT.out, owns_fresh T4.out.row, T4.out.grown⟩
          · have hok : ¬ entsOk es k := fun h => ht (PE.out.1.1 ⟨rfl, h⟩)
            rw [decide_eq_false hok] at HO
            have HT := Lib.hid ht
            clear few hok ht PE
            go_wp2_with fail
            refine HO.mono ?_
            rintro e2 w3 ⟨rfl, hB3⟩
            have T3 := Lib.hid (T2.out.below hB3)
            clear hB3 HO T2
            go_wp2
            go_ret2
            exact ⟨es, 0, .slice none 0 0, by rw [decide_eq_false HT.out]; rfl, Or.inl ⟨none, 0, rfl, rfl⟩, fun h => absurd h HT.out, Fresh.nil _, T3.out.grown⟩
        · have d0 : (q != 0) = true := by simpa using h0
          have HT : Hid (¬ isTree l) := fun h => h0 (PE.out.1.2 h).1
          clear h0 PE
          go_wp2
          go_ret2
          exact ⟨es, 0, .slice none 0 0, by rw [decide_eq_false HT.out]; rfl, Or.inl ⟨none, 0, rfl, rfl⟩, fun h => absurd h HT.out, Fresh.nil _, T2.out.grown⟩
end Go.Proofs.YtlbclfponongbaaGreatDoor
