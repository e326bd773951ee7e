import Derived.Test.YtlbclfponongbaaO23
/- The object of a frame: the walk. -/
namespace Go.Proofs.Ytlbclfponongbaa
open Go.RowKit Classical
set_option maxHeartbeats 2000000 in
set_option maxRecDepth 100000 in
theorem oread_any (f : List UInt8) (w : World) (hf : f.length ≤ 281474976710656) :
    Calls Try.prog 5 #[.string (bs f)] w fun e w' => (∀ k l, IsFrame f k l → e = .returned (.tuple #[.agg (arr 2 (ov k l)), .int .i64 0])) ∧ (¬ isFrame f → e = .returned (.tuple #[.agg (arr 2 (ov 0 [])), .int .i64 2])) ∧ Below w.heap.size w w' := by
  have HN := Lib.hid (fun W => new_any f W hf)
  obtain ⟨s, p, e1, h1⟩ : ∃ s p e1, rRaw 1 f 0 0 = (s, p, e1) := ⟨_, _, _, rfl⟩
  obtain ⟨b, p2, e2, h2⟩ : ∃ b p2 e2, rText 4096 f p e1 = (b, p2, e2) := ⟨_, _, _, rfl⟩
  have l1 : p ≤ f.length := by have := rRaw_le 1 f 0 0 (Nat.zero_le _); rw [h1] at this; exact this
  have C1 : Hid (∀ W r, Rd W r f 0 0 → Calls Try.prog 12 #[.pointer (some ⟨r, 0, none⟩), .int .i64 1] W fun v w' => v = .returned (.string (bs s)) ∧ Rd w' r f p e1 ∧ Keep (fun k => k ≠ r) W w') := fun W r h => by
    have := rraw_any 1 h (Nat.zero_le _) hf
    rw [h1] at this; exact this
  have C2 : Hid (∀ W r, Rd W r f p e1 → Calls Try.prog 13 #[.pointer (some ⟨r, 0, none⟩), .int .i64 4096] W fun v w' => v = .returned (.string (bs b)) ∧ Rd w' r f p2 e2 ∧ Keep (fun k => k ≠ r) W w') := fun W r h => by
    have := rtext_any 4096 h l1 hf
    rw [h2] at this; exact this
  have HI := Lib.hid (fun W => index_any s (raw_one f h1) W)
  obtain ⟨k0, k3⟩ := kof_bound s
  have RF := read_frame h1 h2
  obtain ⟨q, hq⟩ : ∃ q, q = endOf f.length p2 e2 := ⟨_, rfl⟩
  have HE : Hid (∀ W r, Rd W r f p2 e2 → Calls Try.prog 15 #[.pointer (some ⟨r, 0, none⟩)] W fun u w' => u = .returned (.int .i64 q) ∧ Below W.heap.size W w') := fun W r h => by rw [hq]; exact end_any h
  rw [← hq] at RF
  obtain ⟨kk, hkk⟩ : ∃ kk, kk = kof s := ⟨_, rfl⟩
  rw [← hkk] at HI RF k0 k3
  have HRF := Lib.hid RF
  have HR := Lib.hid (fun W => right_any kk b W)
  have B0 : Blk (w.alloc (.cells (arr 2 (ov 0 [])) 24)) w.heap.size 24 2 (ov 0 []) := Blk.newAt _ (heap_alloc_new _ _) rfl
  have L0 : Hid (Below w.heap.size w (w.alloc (.cells (arr 2 (ov 0 [])) 24))) := (Below.refl _ _).alloc (Nat.le_refl _) _
  clear h1 h2 l1 hq hkk RF hf
  go_enter Try.func5, Try.ntmps5
  go_upto_region 1 with fail
  change Code.wp _ _ _ _ (w.alloc (.cells (arr 2 (ov 0 [])) 24))
  have BZ := Lib.hid B0
  clear B0
  generalize hzr : w.heap.size = zr at BZ ⊢
  have HZ := Lib.hid hzr
  clear hzr
  generalize w.alloc (.cells (arr 2 (ov 0 [])) 24) = w1 at L0 BZ ⊢
  have hr0 : Hid (w.heap.size ≤ w1.heap.size) := L0.out.size
  go_wp2_with fail
  refine (HN.out w1).mono ?_
  rintro e w2 ⟨r, rfl, hr, R2, L2⟩
  have RL : Hid (zr ≠ r ∧ w.heap.size ≤ r) := ⟨by have := BZ.out.lt; omega, by have := hr0.out; omega⟩
  have BZ2 := Lib.hid (BZ.out.below L2 BZ.out.lt)
  have K2 : Hid (Keep (fun b => b < w.heap.size) w w2) := keepAll (L0.out.trans (L2.mono L0.out.size))
  have HR2 := Lib.hid R2
  clear R2 L2 hr BZ L0 HN hr0
  go_wp2_with fail
  refine (C1.out w2 r HR2.out).mono ?_
  rintro e w3 ⟨rfl, R3, k⟩
  have BZ3 := Lib.hid (k.blk RL.out.1 BZ2.out)
  have K3 : Hid (Keep (fun b => b < w.heap.size) w w3) := K2.out.trans (k.mono fun b hb _ => by have := RL.out.2; omega)
  have HR3 := Lib.hid R3
  clear R3 k K2 BZ2 HR2 C1
  go_wp2_with fail
  refine (C2.out w3 r HR3.out).mono ?_
  rintro e w4 ⟨rfl, R4, k⟩
  have BZ4 := Lib.hid (k.blk RL.out.1 BZ3.out)
  have K4 : Hid (Keep (fun b => b < w.heap.size) w w4) := K3.out.trans (k.mono fun b hb _ => by have := RL.out.2; omega)
  have HR4 := Lib.hid R4
  clear R4 k K3 BZ3 HR3 C2
  go_wp2_with fail
  refine (HI.out w4).mono ?_
  rintro e w5 ⟨rfl, rfl⟩
  have A5 := (Below.refl w5.heap.size w5).alloc (Nat.le_refl _) (.cells (arr 2 (ov kk b)) 24)
  have BZ5 := Lib.hid (BZ4.out.below A5 BZ4.out.lt)
  have K5 := Lib.hid (K4.out.trans (Keep.all A5))
  have HR5 := Lib.hid (HR4.out.keep (K := fun _ => True) (Keep.all A5) trivial)
  have BO := Lib.hid (Blk.newAt _ (heap_alloc_new w5 (.cells (arr 2 (ov kk b)) 24)) rfl : Blk (w5.alloc (.cells (arr 2 (ov kk b)) 24)) w5.heap.size 24 2 (ov kk b))
  clear A5 BZ4 K4 HR4
  go_upto_region 5 with fail
  change Code.wp _ _ _ _ (w5.alloc (.cells (arr 2 (ov kk b)) 24))
  generalize w5.alloc (.cells (arr 2 (ov kk b)) 24) = w6 at BZ5 K5 HR5 BO ⊢
  generalize w5.heap.size = zo at BO ⊢
  have c0 : w6.cell? ⟨zo, 0, none⟩ = some (.int .i64 kk) := BO.out.cell 0 (by omega)
  by_cases h0 : q = 0
  · subst h0
    go_wp2_with fail
    refine (HE.out w6 r HR5.out).mono ?_
    rintro e w7 ⟨rfl, L7⟩
    have BZ7 := Lib.hid (BZ5.out.below L7 BZ5.out.lt)
    have K7 := Lib.hid (K5.out.trans (Keep.all L7))
    have BO7 := Lib.hid (BO.out.below L7 BO.out.lt)
    have d0 : w7.cell? ⟨zo, 0, none⟩ = some (.int .i64 kk) := BO7.out.cell 0 (by omega)
    have d1 : w7.cell? ⟨zo, 1, none⟩ = some (.string (bs b)) := BO7.out.cell 1 (by omega)
    clear L7 BZ5 K5 BO c0 HR5
    by_cases hok : objOk kk b
    · rw [decide_eq_true hok] at HR
      have HF := Lib.hid (HRF.out.1 (by first | rfl | trivial) hok)
      clear hok
      go_wp2_with fail
      refine (HR.out w7).mono ?_
      rintro e w8 ⟨rfl, L8⟩
      have BZ8 := Lib.hid (BZ7.out.below L8 BZ7.out.lt)
      have K8 := Lib.hid (K7.out.trans (Keep.all L8))
      have BO8 := Lib.hid (BO7.out.below L8 BO7.out.lt)
      clear L8 BZ7 K7 BO7 d0 d1
      go_upto_region 7 with fail
      refine wp_region_lit ?_
      refine wpList_valG (by kernel_rfl) (ex_load 24 (.tmp 7) rfl zo 0 2 (ov kk b) rfl Try.underlying24 rfl szObject BO8.out.at0) ?_
      try simp only [Act.put, List.setIfInBounds_toArray, List.set_cons_zero, List.set_cons_succ]
      refine wpList_unitG (by kernel_rfl) (ex_store 24 (.tmp 2) (.tmp 28) rfl zr 0 2 (ov kk b) rfl rfl (BZ8.out.there 0 2 (by omega)) szObject (fun i _ => ov_one _ _ i)) ?_
      try simp only [Act.put, List.setIfInBounds_toArray, List.set_cons_zero, List.set_cons_succ]
      refine wpList_valS (v := ?_) (by kernel_rfl) ?_ ?_
      rotate_left 1
      · (go_simp; try with_reducible rfl)
      try simp only [Act.put, List.setIfInBounds_toArray, List.set_cons_zero, List.set_cons_succ]
      refine wpList_nil ?_
      have B9 := BZ8.out.over (ov kk b)
      have L9 : Hid (Below w.heap.size w (w8.setCells zr 0 (arr 2 (ov kk b)).toList)) := (K8.out.trans ((keep_setCells (b := zr) _ 0 w8).mono fun b hb _ => by have := HZ.out; omega)).below (Nat.le_refl _)
      clear BZ8 K8 BO8
      generalize w8.setCells zr 0 (arr 2 (ov kk b)).toList = w9 at B9 L9 ⊢
      go_wp2
      exact bodyPost_ret (results_blk2 rfl _ _ zr 24 2 (ov kk b) B9 _ rfl Try.underlying24 rfl szObject) rfl ⟨fun k l h => (by
        obtain ⟨_, g1, g2⟩ := HRF.out.2 k l h
        rw [← g1, ← g2]; rfl), fun h => absurd ⟨_, _, HF.out⟩ h, L9.out⟩
    · rw [decide_eq_false hok] at HR
      have NF : Hid (¬ isFrame f) := fun ⟨k, l, h⟩ => by
        obtain ⟨_, g1, g2⟩ := HRF.out.2 k l h
        exact hok (by rw [g1, g2]; exact h.1)
      clear hok
      go_wp2_with fail
      refine (HR.out w7).mono ?_
      rintro e w8 ⟨rfl, L8⟩
      have BZ8 := Lib.hid (BZ7.out.below L8 BZ7.out.lt)
      have K8 := Lib.hid (K7.out.trans (Keep.all L8))
      clear L8 BZ7 K7 BO7 d0 d1
      go_upto_region 6 with fail
      refine wp_region_lit ?_
      refine wpList_valS (v := ?_) (by kernel_rfl) ?_ ?_
      rotate_left 1
      · (go_simp; try with_reducible rfl)
      try simp only [Act.put, List.setIfInBounds_toArray, List.set_cons_zero, List.set_cons_succ]
      refine wpList_unitG (by kernel_rfl) (ex_store 24 (.tmp 2) (.tmp 27) rfl zr 0 2 (ov 0 []) rfl rfl (BZ8.out.there 0 2 (by omega)) szObject (fun i _ => ov_one _ _ i)) ?_
      try simp only [Act.put, List.setIfInBounds_toArray, List.set_cons_zero, List.set_cons_succ]
      refine wpList_valS (v := ?_) (by kernel_rfl) ?_ ?_
      rotate_left 1
      · (go_simp; try with_reducible rfl)
      try simp only [Act.put, List.setIfInBounds_toArray, List.set_cons_zero, List.set_cons_succ]
      refine wpList_nil ?_
      have B9 := BZ8.out.over (ov 0 [])
      have L9 : Hid (Below w.heap.size w (w8.setCells zr 0 (arr 2 (ov 0 [])).toList)) := (K8.out.trans ((keep_setCells (b := zr) _ 0 w8).mono fun b hb _ => by have := HZ.out; omega)).below (Nat.le_refl _)
      clear BZ8 K8
      generalize w8.setCells zr 0 (arr 2 (ov 0 [])).toList = w9 at B9 L9 ⊢
      go_wp2
      exact bodyPost_ret (results_blk2 rfl _ _ zr 24 2 (ov 0 []) B9 _ rfl Try.underlying24 rfl szObject) rfl ⟨fun k l h => absurd ⟨k, l, h⟩ NF.out, fun _ => rfl, L9.out⟩
  · have d0 : (q != 0) = true := by simpa using h0
    have NF : Hid (¬ isFrame f) := fun ⟨k, l, h⟩ => h0 (HRF.out.2 k l h).1
    clear h0
    go_wp2_with fail
    refine (HE.out w6 r HR5.out).mono ?_
    rintro e w7 ⟨rfl, L7⟩
    have BZ8 := Lib.hid (BZ5.out.below L7 BZ5.out.lt)
    have K8 := Lib.hid (K5.out.trans (Keep.all L7))
    clear L7 BZ5 K5 BO c0 HR5
    go_upto_region 6 with fail
    refine wp_region_lit ?_
    refine wpList_valS (v := ?_) (by kernel_rfl) ?_ ?_
    rotate_left 1
    · (go_simp; try with_reducible rfl)
    try simp only [Act.put, List.setIfInBounds_toArray, List.set_cons_zero, List.set_cons_succ]
    refine wpList_unitG (by kernel_rfl) (ex_store 24 (.tmp 2) (.tmp 27) rfl zr 0 2 (ov 0 []) rfl rfl (BZ8.out.there 0 2 (by omega)) szObject (fun i _ => ov_one _ _ i)) ?_
    try simp only [Act.put, List.setIfInBounds_toArray, List.set_cons_zero, List.set_cons_succ]
    refine wpList_valS (v := ?_) (by kernel_rfl) ?_ ?_
    rotate_left 1
    · (go_simp; try with_reducible rfl)
    try simp only [Act.put, List.setIfInBounds_toArray, List.set_cons_zero, List.set_cons_succ]
    refine wpList_nil ?_
    have B9 := BZ8.out.over (ov 0 [])
    have L9 : Hid (Below w.heap.size w (w7.setCells zr 0 (arr 2 (ov 0 [])).toList)) := (K8.out.trans ((keep_setCells (b := zr) _ 0 w7).mono fun b hb _ => by have := HZ.out; omega)).below (Nat.le_refl _)
    clear BZ8 K8
    generalize w7.setCells zr 0 (arr 2 (ov 0 [])).toList = w9 at B9 L9 ⊢
    go_wp2
    exact bodyPost_ret (results_blk2 rfl _ _ zr 24 2 (ov 0 []) B9 _ rfl Try.underlying24 rfl szObject) rfl ⟨fun k l h => absurd ⟨k, l, h⟩ NF.out, fun _ => rfl, L9.out⟩
end Go.Proofs.Ytlbclfponongbaa
