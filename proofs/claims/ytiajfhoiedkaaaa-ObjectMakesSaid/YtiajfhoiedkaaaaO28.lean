import Derived.Test.YtiajfhoiedkaaaaO27
/- A commit's object. -/
namespace Go.Proofs.Ytiajfhoiedkaaaa
open Go.RowKit Classical
theorem clamp_small (n : Nat) (h : n ≤ 1099511627775) : clamp (n : Int) = n := by unfold clamp; omega
theorem Row.keepB {K : Nat → Prop} {W W' : World} {v : Value} {m : Nat} {c : Nat → Value} {n : Nat} (h : Row W v m c n) (hk : Keep K W W') (hK : ∀ g, g < W.heap.size → K g) : Row W' v m c n := by
  rcases h with h | ⟨b, k, cap, h1, h2, h3, h4, h5⟩
  · exact Or.inl h
  · exact Or.inr ⟨b, k, cap, h1, h2, h3, Nat.lt_of_lt_of_le h4 hk.size, fun i hi => hk.cell (hK _ h4) (h5 i hi)⟩
theorem cv_parts {w : World} {z : Nat} {t : Nat → UInt8} {v : Value} {s : List UInt8} (h : Blk w z 36 34 (cv t v s)) : w.cell? ⟨z, 32, none⟩ = some v ∧ w.cell? ⟨z, 33, none⟩ = some (.string (bs s)) ∧ At w z 0 32 (bv t) := by
  refine ⟨h.cell 32 (by omega), h.cell 33 (by omega), h.at0.part 0 32 _ (by omega) fun j hj => ?_⟩
  unfold cv
  rw [if_pos (by omega), Nat.zero_add]
  rfl
theorem comB_len (c : Com) (h : comOk c) : (comB c).length ≤ 400 := by
  unfold comB
  have h1 := dg_le6 (show c.n ≤ 1099511627775 by have := h.1; omega)
  have h2 := dg_le6 (clamp_le (c.text.length : Int))
  have := h.1
  have := h.2.1
  rw [List.length_append, List.length_append, List.length_append, idL_length, tx_len, pb_len]
  omega
set_option maxHeartbeats 2000000 in
set_option maxRecDepth 100000 in
theorem commit_any (t : Nat → UInt8) (p : Nat → Nat → UInt8) (n : Nat) (s : List UInt8) (v : Value) (w : World) (hR : Row w v 32 (pc p) n) (hn : n ≤ 140737488355328) :
    Calls Try.prog 14 #[.agg (arr 34 (cv t v s))] w fun e w' => (comOk ⟨t, n, p, s⟩ → e = .returned (.tuple #[.agg (arr 2 (ov 3 (comB ⟨t, n, p, s⟩))), .int .i64 0])) ∧ (¬ comOk ⟨t, n, p, s⟩ → e = .returned (.tuple #[.agg (arr 2 (ov 0 [])), .int .i64 1])) ∧ Below w.heap.size w w' := by
  obtain ⟨ad, cap, rfl, -⟩ := row_addr hR
  have BC0 : Blk (w.alloc (.cells (arr 34 (cv t (.slice ad n cap) s)) 36)) w.heap.size 36 34 (cv t (.slice ad n cap) s) := Blk.newAt _ (heap_alloc_new _ _) rfl
  have A0 : Below w.heap.size w (w.alloc (.cells (arr 34 (cv t (.slice ad n cap) s)) 36)) := (Below.refl _ _).alloc (Nat.le_refl _) _
  have BZ0 : Blk ((w.alloc (.cells (arr 34 (cv t (.slice ad n cap) s)) 36)).alloc (.cells (arr 2 (ov 0 [])) 24)) (w.heap.size + 1) 24 2 (ov 0 []) := Blk.newAt _ (heap_alloc2_new w _ _) rfl
  have A1 := (Below.refl (w.alloc (.cells (arr 34 (cv t (.slice ad n cap) s)) 36)).heap.size (w.alloc (.cells (arr 34 (cv t (.slice ad n cap) s)) 36))).alloc (Nat.le_refl _) (.cells (arr 2 (ov 0 [])) 24)
  have L0 := Lib.hid (A0.trans (A1.mono A0.size))
  have BC := Lib.hid (BC0.below A1 BC0.lt)
  have BZ := Lib.hid BZ0
  have R0 := Lib.hid (hR.below L0.out)
  go_enter Try.func14, Try.ntmps14
  go_upto_region 1 with fail
  change Code.wp _ _ _ _ ((w.alloc (.cells (arr 34 (cv t (.slice ad n cap) s)) 36)).alloc (.cells (arr 2 (ov 0 [])) 24))
  clear BC0 BZ0 A0 A1 hR
  generalize hzb : w.heap.size = zb at BC BZ ⊢
  have HZ := Lib.hid hzb
  clear hzb
  generalize (w.alloc (.cells (arr 34 (cv t (.slice ad n cap) s)) 36)).alloc (.cells (arr 2 (ov 0 [])) 24) = w1 at L0 BC BZ R0 ⊢
  have HC := Lib.hid (ocom_any t p n s (.slice ad n cap) w1 R0.out hn)
  clear hn
  refine wp_region_lit ?_
  refine wpList_valG (by kernel_rfl) (ex_load 36 (.tmp 1) rfl zb 0 34 (cv t (.slice ad n cap) s) rfl Try.underlying36 rfl szCommit BC.out.at0) ?_
  try simp only [Act.put, List.setIfInBounds_toArray, List.set_cons_zero, List.set_cons_succ]
  refine wpList_callG (by kernel_rfl) fun K hK => ?_
  go_simp
  refine (HC.out).mono ?_
  rintro e w2 ⟨rfl, L2⟩
  refine hK _ _ ?_
  clear hK K
  try simp only [Act.put, List.setIfInBounds_toArray, List.set_cons_zero, List.set_cons_succ]
  refine wpList_valS (v := ?_) (by kernel_rfl) ?_ ?_
  rotate_left 1
  · (go_simp; try with_reducible rfl)
  try simp only [Act.put, List.setIfInBounds_toArray, List.set_cons_zero, List.set_cons_succ]
  refine wpList_nil ?_
  have BC2 := Lib.hid (BC.out.below L2 BC.out.lt)
  have BZ2 := Lib.hid (BZ.out.below L2 BZ.out.lt)
  have R2 := Lib.hid (R0.out.below L2)
  have K2 := Lib.hid (keepAll (L0.out.trans (L2.mono L0.out.size)))
  have Z2 := Lib.hid (Nat.lt_of_lt_of_le BZ.out.lt L2.size)
  clear L2 BC BZ R0 L0 HC
  by_cases hok : comOk ⟨t, n, p, s⟩
  · rw [decide_eq_true hok]
    have HOK := Lib.hid hok
    have N4 : Hid (n ≤ 4) := hok.1
    have T64 : Hid (s.length ≤ 64) := hok.2.1
    clear hok
    simp only [Bool.not_true]
    go_upto_region 4 with fail
    have W0 : Hid (Wr (· < w2.heap.size) (w2.alloc (.cells #[.slice none 0 0] 77)) w2.heap.size []) := Wr.new fun k h => h
    have K0 : Hid (Keep (· < w2.heap.size) w2 (w2.alloc (.cells #[.slice none 0 0] 77))) := (Keep.refl _ w2).alloc _
    change Code.wp _ _ _ _ (w2.alloc (.cells #[.slice none 0 0] 77))
    generalize w2.alloc (.cells #[.slice none 0 0] 77) = w3 at W0 K0 ⊢
    generalize hh : w2.heap.size = hb at W0 K0 Z2 ⊢
    have HH := Lib.hid hh
    clear hh
    have I3 := Lib.hid (cv_parts (K0.out.blk (by have := Z2.out; omega) BC2.out)).2.2
    refine wp_region_lit ?_
    refine wpList_valG (by kernel_rfl) (ex_fieldP fC0 (.tmp 1) rfl zb 0 rfl 0 rfl) ?_
    try simp only [Act.put, List.setIfInBounds_toArray, List.set_cons_zero, List.set_cons_succ]
    refine wpList_valG (by kernel_rfl) (ex_load 33 (.tmp 9) rfl zb 0 32 (bv t) rfl Try.underlying33 rfl sz30 I3.out) ?_
    try simp only [Act.put, List.setIfInBounds_toArray, List.set_cons_zero, List.set_cons_succ]
    refine wpList_valG (by kernel_rfl) (ex_bslice 34 33 (.tmp 10) rfl 32 (bv t) rfl tIds zId (by decide) (by decide)) ?_
    try simp only [Act.put, List.setIfInBounds_toArray, List.set_cons_zero, List.set_cons_succ]
    refine wpList_callG (by kernel_rfl) fun K hK => ?_
    go_simp
    refine (id_call W0.out t _ _ rfl rfl (by simp)).mono ?_
    rintro e w4 ⟨rfl, g, kk⟩
    refine hK _ _ ?_
    clear hK K
    try simp only [Act.put, List.setIfInBounds_toArray, List.set_cons_zero, List.set_cons_succ]
    refine wpList_nil ?_
    have W4 := Lib.hid g
    have K4 := Lib.hid (K0.out.trans kk)
    have c32 := (cv_parts (K4.out.blk (by have := Z2.out; omega) BC2.out)).1
    clear g kk W0 K0 I3
    go_wp2_with fail
    refine (num_call W4.out (n : Int) _ rfl (by rw [List.nil_append, idL_length]; omega)).mono ?_
    rintro e w5 ⟨rfl, g, kk⟩
    have W5 := Lib.hid g
    have K5 := Lib.hid (K4.out.trans kk)
    clear g kk W4 K4 c32
    have c32 := (cv_parts (K5.out.blk (by have := Z2.out; omega) BC2.out)).1
    have R5 := Lib.hid (R2.out.keepB K5.out (fun g h => by have := HH.out; omega))
    go_wp2_with fail
    refine (wids_any p n (.slice ad n cap) W5.out R5.out (fun h0 g o m cap' h => by
      obtain ⟨ad2, cap2, e2, ha⟩ := row_addr R2.out
      obtain ⟨b, o2, rfl, hb, -⟩ := ha h0
      cases e2; cases h
      have := HH.out; omega) (by have := N4.out; omega) (by have := N4.out; rw [clamp_small n (by omega)]; have := dg_le6 (show n ≤ 1099511627775 by omega); rw [List.nil_append, List.length_append, idL_length]; omega)).mono ?_
    rintro e w6 ⟨rfl, g, kk⟩
    have W6 := Lib.hid g
    have K6 := Lib.hid (K5.out.trans kk)
    have c33 := (cv_parts (K6.out.blk (by have := Z2.out; omega) BC2.out)).2.1
    clear g kk W5 K5 c32 R5
    go_wp2_with fail
    refine (text_call W6.out s _ rfl (by have := N4.out; have := T64.out; rw [clamp_small n (by omega)]; have := dg_le6 (show n ≤ 1099511627775 by omega); rw [List.nil_append, List.length_append, List.length_append, idL_length, pb_len]; omega)).mono ?_
    rintro e w7 ⟨rfl, g, kk⟩
    have W7 : Hid (Wr (· < hb) w7 hb (comB ⟨t, n, p, s⟩)) := by
      rw [List.nil_append, clamp_small n (by have := N4.out; omega)] at g
      exact g
    have K7 := Lib.hid (K6.out.trans kk)
    have BZ7 := Lib.hid (K7.out.blk (by exact Z2.out) BZ2.out)
    have L7 := Lib.hid (K2.out.trans (K7.out.mono fun b hb' hl => by have := Z2.out; have := K2.out.size; have := HH.out; omega))
    clear g kk W6 K6 c33
    go_upto_region 8 with fail
    refine wp_region_lit ?_
    refine wpList_callG (by kernel_rfl) fun K hK => ?_
    go_simp
    refine (wstr_any W7.out).mono ?_
    rintro e w9 ⟨rfl, rfl⟩
    refine hK _ _ ?_
    clear hK K
    try simp only [Act.put, List.setIfInBounds_toArray, List.set_cons_zero, List.set_cons_succ]
    refine wpList_valS (v := ?_) (by kernel_rfl) ?_ ?_
    rotate_left 1
    · (go_simp; try with_reducible rfl)
    try simp only [Act.put, List.setIfInBounds_toArray, List.set_cons_zero, List.set_cons_succ]
    refine wpList_unitG (by kernel_rfl) (ex_store 24 (.tmp 2) (.tmp 26) rfl (zb + 1) 0 2 (ov 3 (comB ⟨t, n, p, s⟩)) rfl rfl (BZ7.out.there 0 2 (by omega)) szObject (fun i _ => ov_one _ _ i)) ?_
    try simp only [Act.put, List.setIfInBounds_toArray, List.set_cons_zero, List.set_cons_succ]
    refine wpList_valS (v := ?_) (by kernel_rfl) ?_ ?_
    rotate_left 1
    · (go_simp; try with_reducible rfl)
    try simp only [Act.put, List.setIfInBounds_toArray, List.set_cons_zero, List.set_cons_succ]
    refine wpList_nil ?_
    have B3 := BZ7.out.over (ov 3 (comB ⟨t, n, p, s⟩))
    have L3 : Hid (Below w.heap.size w (w7.setCells (zb + 1) 0 (arr 2 (ov 3 (comB ⟨t, n, p, s⟩))).toList)) := (L7.out.trans ((keep_setCells (b := zb + 1) _ 0 w7).mono fun b hb _ => by have := HZ.out; omega)).below (Nat.le_refl _)
    clear BZ7 L7
    generalize w7.setCells (zb + 1) 0 (arr 2 (ov 3 (comB ⟨t, n, p, s⟩))).toList = w10 at B3 L3 ⊢
    go_wp2
    exact bodyPost_ret (results_blk2 rfl _ _ (zb + 1) 24 2 (ov 3 (comB ⟨t, n, p, s⟩)) B3 _ rfl Try.underlying24 rfl szObject) rfl ⟨fun _ => rfl, fun h => absurd HOK.out h, L3.out⟩
  · rw [decide_eq_false hok]
    have NO := Lib.hid hok
    clear hok
    simp only [Bool.not_false]
    go_upto_region 2 with fail
    refine wp_region_lit ?_
    refine wpList_valS (v := ?_) (by kernel_rfl) ?_ ?_
    rotate_left 1
    · (go_simp; try with_reducible rfl)
    try simp only [Act.put, List.setIfInBounds_toArray, List.set_cons_zero, List.set_cons_succ]
    refine wpList_unitG (by kernel_rfl) (ex_store 24 (.tmp 2) (.tmp 8) rfl (zb + 1) 0 2 (ov 0 []) rfl rfl (BZ2.out.there 0 2 (by omega)) szObject (fun i _ => ov_one _ _ i)) ?_
    try simp only [Act.put, List.setIfInBounds_toArray, List.set_cons_zero, List.set_cons_succ]
    refine wpList_valS (v := ?_) (by kernel_rfl) ?_ ?_
    rotate_left 1
    · (go_simp; try with_reducible rfl)
    try simp only [Act.put, List.setIfInBounds_toArray, List.set_cons_zero, List.set_cons_succ]
    refine wpList_nil ?_
    have B3 := BZ2.out.over (ov 0 [])
    have L3 : Hid (Below w.heap.size w (w2.setCells (zb + 1) 0 (arr 2 (ov 0 [])).toList)) := (K2.out.trans ((keep_setCells (b := zb + 1) _ 0 w2).mono fun b hb _ => by have := HZ.out; omega)).below (Nat.le_refl _)
    clear BZ2 K2
    generalize w2.setCells (zb + 1) 0 (arr 2 (ov 0 [])).toList = w3 at B3 L3 ⊢
    go_wp2
    exact bodyPost_ret (results_blk2 rfl _ _ (zb + 1) 24 2 (ov 0 []) B3 _ rfl Try.underlying24 rfl szObject) rfl ⟨fun h => absurd h NO.out, fun _ => rfl, L3.out⟩
end Go.Proofs.Ytiajfhoiedkaaaa
