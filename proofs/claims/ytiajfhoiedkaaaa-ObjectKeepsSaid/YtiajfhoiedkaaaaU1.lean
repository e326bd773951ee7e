import Derived.Test.YtiajfhoiedkaaaaUA
/- The law's function of ObjectKeeps. -/
namespace Go.Proofs.Ytiajfhoiedkaaaa
open Go.RowKit Classical
set_option maxHeartbeats 3000000 in
set_option maxRecDepth 100000 in
theorem objectkeeps_any (es : Nat → Ent) (n0 : Nat) (v0 : Value) (t : Nat → UInt8) (q1 : Nat → Nat → UInt8) (n1 : Nat) (u1 : Value) (s1 : List UInt8) (W : World) (hn0 : n0 ≤ 9223372036854775807) (hm0 : ∀ i, i < n0 → (es i).name.length ≤ 9223372036854775807) (hn1 : n1 ≤ 9223372036854775807) (hs1 : s1.length ≤ 9223372036854775807)
    (hR0 : Row W v0 34 (ec es) n0) (hR1 : Row W u1 32 (pc q1) n1) :
    Calls Try.prog 7 #[v0, .agg (arr 34 (cv t u1 s1))] W fun e w' => e = .returned (.bool true) ∧ Below W.heap.size W w' := by
  have HA := Lib.hid (fun W => alive_any W)
  obtain ⟨ad, cap, rfl, -⟩ := row_addr hR0
  obtain ⟨ad1, cap1, rfl, -⟩ := row_addr hR1
  have hz := bs_size s1
  have R0 := Lib.hid hR0
  have R1 := Lib.hid hR1
  have T0 := Lib.hid (Tl.start W (cv t (.slice ad1 n1 cap1) s1))
  clear hR0 hR1
  go_enter Try.func7, Try.ntmps7
  go_upto_region 1 with fail
  change Code.wp _ _ _ _ (W.alloc (.cells (arr 34 (cv t (.slice ad1 n1 cap1) s1)) 36))
  generalize W.alloc (.cells (arr 34 (cv t (.slice ad1 n1 cap1) s1)) 36) = w1 at T0 ⊢
  generalize W.heap.size = z at T0 ⊢
  go_wp2_with fail
  refine (HA.out _).mono ?_
  rintro e w2 ⟨rfl, L2⟩
  have T2 := Lib.hid (T0.out.step L2)
  clear L2 T0
  obtain ⟨c32, c33, -⟩ := cv_parts T2.out.blk
  have HG := great_any es n0 (.slice ad n0 cap) w2 (R0.out.below T2.out.keep) hn0 hm0
  by_cases hg : greatE es n0
  · rw [decide_eq_true hg] at HG
    replace HG := Lib.hid HG
    clear hg hz hn0 hm0 hn1 hs1
    go_wp2_with fail
    refine HG.out.mono ?_
    rintro e w3 ⟨rfl, rfl⟩
    go_wp2_with fail
    refine (HA.out _).mono ?_
    rintro e w4 ⟨rfl, L4⟩
    have T9 := Lib.hid (T2.out.step L4)
    clear L4
    go_wp2
    go_ret
    exact ⟨rfl, T9.out.keep⟩
  · rw [decide_eq_false hg] at HG
    replace HG := Lib.hid HG
    clear hn0 hm0
    by_cases b1 : 20 < n1
    · have t1 : (20 : Int) < (n1 : Int) := by omega
      clear b1 hg hz hn1 hs1
      go_wp2_with fail
      refine HG.out.mono ?_
      rintro e w3 ⟨rfl, rfl⟩
      go_wp2_with fail
      refine (HA.out _).mono ?_
      rintro e w4 ⟨rfl, L4⟩
      have T9 := Lib.hid (T2.out.step L4)
      clear L4
      go_wp2
      go_ret
      exact ⟨rfl, T9.out.keep⟩
    · have t1 : decide ((20 : Int) < (n1 : Int)) = false := by simp; omega
      by_cases b2 : 300 < s1.length
      · have t2 : (300 : Int) < ((bs s1).size : Int) := by omega
        clear b1 b2 hg hz hn1 hs1
        generalize bs s1 = sb at c33 t2
        go_wp2_with fail
        refine HG.out.mono ?_
        rintro e w3 ⟨rfl, rfl⟩
        go_wp2_with fail
        refine (HA.out _).mono ?_
        rintro e w4 ⟨rfl, L4⟩
        have T9 := Lib.hid (T2.out.step L4)
        clear L4
        go_wp2
        go_ret
        exact ⟨rfl, T9.out.keep⟩
      · have t2 : decide ((300 : Int) < ((bs s1).size : Int)) = false := by rw [hz]; simp; omega
        clear hn1 hs1
        have N60 : Hid (n0 ≤ 60) := by show n0 ≤ 60; by_cases c : 60 < n0; exact absurd (Or.inl c) hg; omega
        have NM : Hid (∀ i, i < n0 → (es i).name.length ≤ 281474976710656) := fun i hi => by by_cases c : 100 < (es i).name.length; exact absurd (Or.inr ⟨i, hi, c⟩) hg; omega
        have N20 : Hid (n1 ≤ 20) := by show n1 ≤ 20; omega
        clear hg b1 b2 hz
        go_wp2_with fail
        refine HG.out.mono ?_
        rintro e w3 ⟨rfl, rfl⟩
        go_upto_region 5 with fail
        clear c32 c33 t1 t2 HG
        obtain ⟨k1, l1, r1, HT⟩ := tree_det es n0 NM.out
        obtain ⟨k2, l2, r2, HM⟩ := com_det t q1 n1 s1 (by have := N20.out; omega)
        replace HT := Lib.hid HT
        replace HM := Lib.hid HM
        have HK := make_ents w2 n0 (n0 + 2) (by omega) (by have := N60.out; omega)
        rw [show ((n0 + 2 : Nat) : Int) = (n0 : Int) + 2 from by omega] at HK
        have n60 : n0 ≤ 60 := N60.out
        have w60 : IntKind.i64.wrap ((n0 : Int) + 2) = (n0 : Int) + 2 := IntWalk.i64_in _ (by omega)
        have BR3 : Blk (w2.alloc (.cells (arr ((n0 + 2) * 34) (ec fun _ => zE)) 51)) w2.heap.size 51 ((n0 + 2) * 34) (ec fun _ => zE) := Blk.newAt _ (heap_alloc_new _ _) rfl
        have T3 := T2.out.alloc (.cells (arr ((n0 + 2) * 34) (ec fun _ => zE)) 51)
        have ZR : Hid (z < w2.heap.size ∧ W.heap.size ≤ w2.heap.size) := ⟨T2.out.blk.lt, T2.out.keep.size⟩
        refine wp_region_lit ?_
        refine wpList_valS (v := ?_) (by kernel_rfl) ?_ ?_
        rotate_left 1
        · (go_simp; try with_reducible rfl)
        try simp only [Act.put, List.setIfInBounds_toArray, List.set_cons_zero, List.set_cons_succ]
        refine wpList_valS (v := ?_) (by kernel_rfl) ?_ ?_
        rotate_left 1
        · (go_simp; try with_reducible rfl)
        try simp only [Act.put, List.setIfInBounds_toArray, List.set_cons_zero, List.set_cons_succ]
        refine wpList_valS (v := ?_) (by kernel_rfl) ?_ ?_
        rotate_left 1
        · (go_simp; try with_reducible rfl)
        try simp only [Act.put, List.setIfInBounds_toArray, List.set_cons_zero, List.set_cons_succ]
        refine wpList_valS (v := ?_) (by kernel_rfl) ?_ ?_
        rotate_left 1
        · (go_simp; try with_reducible rfl)
        try simp only [Act.put, List.setIfInBounds_toArray, List.set_cons_zero, List.set_cons_succ]
        refine wpList_valS (v := ?_) (by kernel_rfl) ?_ ?_
        rotate_left 1
        · (go_simp; try with_reducible rfl)
        try simp only [Act.put, List.setIfInBounds_toArray, List.set_cons_zero, List.set_cons_succ]
        refine wpList_valG (by kernel_rfl) (ex_make 31 (.tmp 36) (.tmp 39) rfl HK) ?_
        try simp only [Act.put, List.setIfInBounds_toArray, List.set_cons_zero, List.set_cons_succ]
        refine wpList_valS (v := ?_) (by kernel_rfl) ?_ ?_
        rotate_left 1
        · (go_simp; try with_reducible rfl)
        try simp only [Act.put, List.setIfInBounds_toArray, List.set_cons_zero, List.set_cons_succ]
        refine wpList_nil ?_
        clear HK T2
        generalize w2.alloc (.cells (arr ((n0 + 2) * 34) (ec fun _ => zE)) 51) = w3 at BR3 T3 ⊢
        generalize w2.heap.size = rm at BR3 ZR ⊢
        obtain ⟨w4, HC, BR4, K4⟩ := copy_ents 3 (R0.out.below T3.keep) BR3
        have T4 : Hid (Tl W z (cv t (.slice ad1 n1 cap1) s1) w4) := ⟨((keepAll T3.keep).trans (K4.mono fun b hb _ => by have := ZR.out.2; omega)).below (Nat.le_refl _), K4.blk (by have := ZR.out.1; omega) T3.blk⟩
        have B4 := Lib.hid BR4
        clear T3 BR3 K4 BR4
        go_upto_region 6 with fail
        refine wp_region_lit ?_
        refine wpList_valS (v := ?_) (by kernel_rfl) ?_ ?_
        rotate_left 1
        · (go_simp; try with_reducible rfl)
        try simp only [Act.put, List.setIfInBounds_toArray, List.set_cons_zero, List.set_cons_succ]
        refine wpList_valS (v := ?_) (by kernel_rfl) ?_ ?_
        rotate_left 1
        · (go_simp; try with_reducible rfl)
        try simp only [Act.put, List.setIfInBounds_toArray, List.set_cons_zero, List.set_cons_succ]
        refine wpList_valG (by kernel_rfl) (ex_copy (.tmp 41) (.tmp 42) 31 31 rfl rfl rfl HC) ?_
        try simp only [Act.put, List.setIfInBounds_toArray, List.set_cons_zero, List.set_cons_succ]
        refine wpList_nil ?_
        clear HC
        go_upto_region 7 with fail
        obtain ⟨v5, w5, HP, OP, L5⟩ := app_ids 34 (R1.out.below T4.out.keep) (by have := N20.out; omega)
        obtain ⟨ad2, cap2, rfl⟩ := owns_shape OP
        have c32 := (cv_parts (T4.out.alloc (.cells #[] 33)).blk).1
        refine wp_region_lit ?_
        refine wpList_valG (by kernel_rfl) (ex_bs0 rfl) ?_
        try simp only [Act.put, List.setIfInBounds_toArray, List.set_cons_zero, List.set_cons_succ]
        refine wpList_valG (by kernel_rfl) (ex_fieldP fC1 (.tmp 3) rfl z 0 rfl 32 rfl) ?_
        try simp only [Act.put, List.setIfInBounds_toArray, List.set_cons_zero, List.set_cons_succ]
        refine wpList_valS (v := ?_) (by kernel_rfl) ?_ ?_
        rotate_left 1
        · (go_simp; try with_reducible rfl)
        try simp only [Act.put, List.setIfInBounds_toArray, List.set_cons_zero, List.set_cons_succ]
        refine wpList_valG (by kernel_rfl) (ex_append (.tmp 44) (.tmp 46) 34 34 rfl rfl rfl HP) ?_
        try simp only [Act.put, List.setIfInBounds_toArray, List.set_cons_zero, List.set_cons_succ]
        refine wpList_valS (v := ?_) (by kernel_rfl) ?_ ?_
        rotate_left 1
        · (go_simp; try with_reducible rfl)
        try simp only [Act.put, List.setIfInBounds_toArray, List.set_cons_zero, List.set_cons_succ]
        refine wpList_nil ?_
        clear HP c32
        have T5 := Lib.hid (T4.out.step L5)
        have B5 := Lib.hid (B4.out.below L5 B4.out.lt)
        have O5 := Lib.hid OP
        have ZP : Hid (rm < w4.heap.size ∧ w4.heap.size ≤ w5.heap.size) := ⟨B4.out.lt, L5.size⟩
        have ZO : Hid (0 < n1 → ∃ pr, ad2 = some ⟨pr, 0, none⟩ ∧ w4.heap.size ≤ pr ∧ pr < w5.heap.size) := fun h0 => by
          obtain ⟨g, cap, N, F, e, h1, _, h2⟩ := owns_blk OP h0
          cases e
          exact ⟨_, rfl, h1, h2.lt⟩
        have Z5 : Hid (∀ g, (Value.slice ad2 n1 cap2).ownBlock = some g → g < w5.heap.size) := fun g h => (own_lt OP h).2
        clear OP L5 T4 B4
        have I5 := Lib.hid T5.out.blk.at0
        go_upto_region 9 with (first | (refine wpList_val rfl _ _ (ex_load 36 (.tmp 3) rfl z 0 34 (cv t (.slice ad1 n1 cap1) s1) rfl Try.underlying36 rfl szCommit I5.out) ?_) | (refine wpList_store_blk rfl 36 (.tmp 7) (.tmp 48) rfl w5.heap.size 34 (cv t (.slice ad1 n1 cap1) s1) (cv (fun _ => 0) (.slice none 0 0) []) rfl rfl 36 (Blk.newAt _ (heap_alloc_new _ _) rfl) szCommit (fun i _ => cv_one _ _ rfl _ i) ?_))
        rw [World.setRow_alloc_new]
        have A6 := (Below.refl w5.heap.size w5).alloc (Nat.le_refl _) (.cells (arr 34 (cv t (.slice ad1 n1 cap1) s1)) 36)
        have P6 : Hid (Kp W z rm es n0 (cv t (.slice ad1 n1 cap1) s1) w4.heap.size (.slice ad2 n1 cap2) n1 q1 w5.heap.size (cv t (.slice ad1 n1 cap1) s1) (w5.alloc (.cells (arr 34 (cv t (.slice ad1 n1 cap1) s1)) 36))) := ⟨(T5.out.step A6).keep, (T5.out.step A6).blk, B5.out.below A6 B5.out.lt, owns_all O5.out A6, Blk.newAt _ (heap_alloc_new _ _) rfl⟩
        clear A6 T5 B5 O5 I5
        generalize w5.alloc (.cells (arr 34 (cv t (.slice ad1 n1 cap1) s1)) 36) = w6 at P6 ⊢
        have ZD : Hid (rm < w5.heap.size ∧ z < w5.heap.size ∧ w4.heap.size ≤ w5.heap.size ∧ W.heap.size ≤ w5.heap.size) := ⟨by have := ZP.out; omega, by have := ZP.out; have := ZR.out; omega, ZP.out.2, by have := ZP.out; have := ZR.out; omega⟩
        generalize w5.heap.size = zd at P6 ZD ZO Z5 ⊢
        have e32 : w6.cell? ⟨zd, 32, none⟩ = some (.slice ad1 n1 cap1) := P6.out.dd.cell 32 (by omega)
        have f32 : w6.frozen? ⟨zd, 32, none⟩ = false := P6.out.dd.frozen 32
        go_upto_region 10 with fail
        change Code.wp _ _ _ _ (w6.setCell ⟨zd, 32, none⟩ (.slice ad2 n1 cap2))
        have K7 : Keep (fun k => k ≠ zd) w6 (w6.setCell ⟨zd, 32, none⟩ (.slice ad2 n1 cap2)) := (Keep.refl _ _).setCell (by simp) _
        have P7 : Hid (Kp W z rm es n0 (cv t (.slice ad1 n1 cap1) s1) w4.heap.size (.slice ad2 n1 cap2) n1 q1 zd (cv t (.slice ad2 n1 cap2) s1) (w6.setCell ⟨zd, 32, none⟩ (.slice ad2 n1 cap2))) := by
          obtain ⟨a, b, c, d, e⟩ := P6.out
          have := ZD.out
          refine ⟨((keepAll a).trans (K7.mono fun b hb _ => by omega)).below (Nat.le_refl _), K7.blk (by omega) b, K7.blk (by omega) c, owns_keep d K7 (fun g h => by have := Z5.out g h; omega), (e.set 32 _).congr fun j _ => cv_par _ _ _ _ _⟩
        clear K7 P6 e32 f32
        generalize w6.setCell ⟨zd, 32, none⟩ (.slice ad2 n1 cap2) = w7 at P7 ⊢
        go_wp2_with fail
        refine (HT.out _ _ (room_row2 P7.out.room)).mono ?_
        rintro e w8 ⟨rfl, L8⟩
        have A9 := (Below.refl w8.heap.size w8).alloc (Nat.le_refl _) (.cells #[.int .i64 k1, .string (bs l1)] 24)
        have P9 := Lib.hid ((P7.out.step L8).step A9)
        have OA : Hid (Blk (w8.alloc (.cells #[.int .i64 k1, .string (bs l1)] 24)) w8.heap.size 24 2 (ov k1 l1)) := Blk.newAt _ (heap_alloc_new _ _) rfl
        have ZA : Hid (zd < w8.heap.size) := (P7.out.step L8).dd.lt
        clear A9 L8 P7
        go_upto_region 11 with fail
        change Code.wp _ _ _ _ (w8.alloc (.cells #[.int .i64 k1, .string (bs l1)] 24))
        generalize w8.alloc (.cells #[.int .i64 k1, .string (bs l1)] 24) = w9 at P9 OA ⊢
        generalize w8.heap.size = zo1 at OA ZA ⊢
        have I9 := Lib.hid P9.out.dd.at0
        go_wp2_with (refine wpList_val rfl _ _ (ex_load 36 (.tmp 7) rfl zd 0 34 (cv t (.slice ad2 n1 cap2) s1) rfl Try.underlying36 rfl szCommit I9.out) ?_)
        refine (HM.out _ _ (owns_row P9.out.par)).mono ?_
        rintro e w10 ⟨rfl, L10⟩
        have A11 := (Below.refl w10.heap.size w10).alloc (Nat.le_refl _) (.cells #[.int .i64 k2, .string (bs l2)] 24)
        have P11 := Lib.hid ((P9.out.step L10).step A11)
        have OA11 := Lib.hid ((OA.out.below L10 OA.out.lt).below A11 (Nat.lt_of_lt_of_le OA.out.lt L10.size))
        have OB : Hid (Blk (w10.alloc (.cells #[.int .i64 k2, .string (bs l2)] 24)) w10.heap.size 24 2 (ov k2 l2)) := Blk.newAt _ (heap_alloc_new _ _) rfl
        have ZB : Hid (zo1 < w10.heap.size) := Nat.lt_of_lt_of_le OA.out.lt L10.size
        clear A11 L10 P9 OA I9
        go_upto_region 12 with fail
        change Code.wp _ _ _ _ (w10.alloc (.cells #[.int .i64 k2, .string (bs l2)] 24))
        generalize w10.alloc (.cells #[.int .i64 k2, .string (bs l2)] 24) = w11 at P11 OA11 OB ⊢
        generalize w10.heap.size = zo2 at OB ZB ⊢
        have E1 : Hid (∀ V, Below w11.heap.size w11 V → Calls Try.prog 24 #[.slice (some ⟨rm, 0, none⟩) n0 (n0 + 2), .slice ad n0 cap] V fun e w' => e = .returned (.bool true) ∧ Below V.heap.size V w') := fun V hV => by
          have h := sameents_any (er es n0) es n0 n0 (.slice (some ⟨rm, 0, none⟩) n0 (n0 + 2)) (.slice ad n0 cap) V ((room_row P11.out.room).below hV) ((R0.out.below P11.out.keep).below hV) (by omega) (by omega)
          rw [decide_eq_true ⟨rfl, fun i hi => by unfold er; rw [if_pos hi]; exact ⟨rfl, rfl, fun _ _ => rfl⟩⟩] at h
          exact h
        have E2 : Hid (∀ V, Below w11.heap.size w11 V → Calls Try.prog 24 #[.slice (some ⟨rm, n0 * 34, none⟩) 2 2, .slice (some ⟨V.heap.size, 0, none⟩) 2 2] (V.alloc (.cells (arr 68 (ec fun _ => zE)) 51)) fun e w' => e = .returned (.bool true) ∧ Below V.heap.size V w') := fun V hV => by
          have hA := hV.alloc hV.size (.cells (arr 68 (ec fun _ => zE)) 51)
          have hB : Blk (V.alloc (.cells (arr 68 (ec fun _ => zE)) 51)) V.heap.size 51 68 (ec fun _ => zE) := Blk.newAt _ (heap_alloc_new _ _) rfl
          have h := sameents_any (fun _ => zE) (fun _ => zE) 2 2 (.slice (some ⟨rm, n0 * 34, none⟩) 2 2) (.slice (some ⟨V.heap.size, 0, none⟩) 2 2) _ ((room_rest P11.out.room).below hA) (row_of (by omega) fun _ => ⟨V.heap.size, 0, rfl, hB.lt, hB.at0⟩) (by omega) (by omega)
          rw [decide_eq_true ⟨rfl, fun i hi => ⟨rfl, rfl, fun _ _ => rfl⟩⟩] at h
          exact h.mono fun e w' h => ⟨h.1, ((Below.refl V.heap.size V).alloc (Nat.le_refl _) _).trans (h.2.mono (by simp))⟩
        have E3 : Hid (∀ V, Below w11.heap.size w11 V → Calls Try.prog 25 #[.slice ad2 n1 cap2, .slice ad1 n1 cap1] V fun e w' => e = .returned (.bool true) ∧ Below V.heap.size V w') := fun V hV => by
          have h := sameids_any q1 q1 n1 n1 (.slice ad2 n1 cap2) (.slice ad1 n1 cap1) V ((owns_row P11.out.par).below hV) ((R1.out.below P11.out.keep).below hV) (by have := N20.out; omega) (by have := N20.out; omega)
          rw [decide_eq_true ⟨rfl, fun i hi => fun _ _ => rfl⟩] at h
          exact h
        have S0 : w11.drew.cell? ⟨z, 32, none⟩ = some (.slice ad1 n1 cap1) ∧ Below w11.heap.size w11 w11.drew := ⟨(cv_parts P11.out.blk).1, (Below.refl _ _).drew⟩
        have ZZ : Hid (z < w11.heap.size) := P11.out.blk.lt
        refine wp_region_noPanic ?_
        refine wp_region_held_drew (S := (fun V => V.cell? ⟨z, 32, none⟩ = some (.slice ad1 n1 cap1) ∧ Below w11.heap.size w11 V)) (by kernel_rfl) S0 (fun hHeld => ?_)
        refine wpAnyH_take (i := 0) (oi := { dst := some 61, op := Op.move (Operand.tmp 5), type := 31, pos := "law.go:170", after := #[], guard := none }) (v := ?_) rfl (by kernel_rfl) (by kernel_rfl) (by kernel_rfl) (fun _ _ _ h => h) (Or.inl ⟨by kernel_rfl, ?_⟩) (by assumption) ?_
        rotate_left 1
        · (intro wS hSw; (try dsimp only at hSw); go_simp; try with_reducible rfl)
        try simp only [Act.put, List.setIfInBounds_toArray, List.set_cons_zero, List.set_cons_succ]
        refine wpAnyH_take (i := 1) (oi := { dst := some 62, op := Op.move (Operand.tmp 0), type := 31, pos := "law.go:170", after := #[], guard := none }) (v := ?_) rfl (by kernel_rfl) (by kernel_rfl) (by kernel_rfl) (fun _ _ _ h => h) (Or.inl ⟨by kernel_rfl, ?_⟩) (by assumption) ?_
        rotate_left 1
        · (intro wS hSw; (try dsimp only at hSw); go_simp; try with_reducible rfl)
        try simp only [Act.put, List.setIfInBounds_toArray, List.set_cons_zero, List.set_cons_succ]
        refine wpAnyH_ready (rs := [2]) (by kernel_rfl) (by simp) ?_
        refine AllReadyH.cons (o := { dst := some 63, op := Op.call { callee := Callee.value (Operand.func 24), args := #[Operand.tmp 61, Operand.tmp 62], argTypes := #[31, 31] }, type := 4, pos := "law.go:170", after := #[{ on := 0, ground := Ground.data }, { on := 1, ground := Ground.data }], guard := none }) rfl (fun K hK => ?_) AllReadyH.nil
        go_simp
        refine (E1.out _ S0.2).mono ?_
        rintro e w12 ⟨rfl, M12⟩
        have Sa2 := And.intro ((M12.cell (Nat.lt_of_lt_of_le ZZ.out S0.2.size)).trans S0.1) (S0.2.trans (M12.mono S0.2.size))
        refine hK.out _ _ Sa2 (fun hHeld2 => ?_)
        clear hK K
        try simp only [Act.put, List.setIfInBounds_toArray, List.set_cons_zero, List.set_cons_succ]
        refine wpAnyH_take (i := 3) (oi := { dst := some 64, op := Op.unOp UnOp.not 4 (Operand.tmp 63), type := 4, pos := "law.go:170", after := #[{ on := 2, ground := Ground.data }], guard := none }) (v := ?_) rfl (by kernel_rfl) (by kernel_rfl) (by kernel_rfl) (fun _ _ _ h => h) (Or.inl ⟨by kernel_rfl, ?_⟩) (by assumption) ?_
        rotate_left 1
        · (intro wS hSw; (try dsimp only at hSw); go_simp; try with_reducible rfl)
        try simp only [Act.put, List.setIfInBounds_toArray, List.set_cons_zero, List.set_cons_succ]
        refine wpAnyH_take (i := 4) (oi := { dst := some 65, op := Op.move (Operand.tmp 64), type := 4, pos := "law.go:170", after := #[{ on := 3, ground := Ground.data }, { on := 2, ground := Ground.chain }], guard := none }) (v := ?_) rfl (by kernel_rfl) (by kernel_rfl) (by kernel_rfl) (fun _ _ _ h => h) (Or.inl ⟨by kernel_rfl, ?_⟩) (by assumption) ?_
        rotate_left 1
        · (intro wS hSw; (try dsimp only at hSw); go_simp; try with_reducible rfl)
        try simp only [Act.put, List.setIfInBounds_toArray, List.set_cons_zero, List.set_cons_succ]
        refine wpAnyH_take (i := 5) (oi := { dst := some 66, op := Op.move (Operand.tmp 5), type := 31, pos := "law.go:170", after := #[{ on := 4, ground := Ground.guard }], guard := some (4, false) }) (v := ?_) rfl (by kernel_rfl) (by kernel_rfl) (by kernel_rfl) (fun _ _ _ h => h) (Or.inl ⟨by kernel_rfl, ?_⟩) (by assumption) ?_
        rotate_left 1
        · (intro wS hSw; (try dsimp only at hSw); go_simp; try with_reducible rfl)
        try simp only [Act.put, List.setIfInBounds_toArray, List.set_cons_zero, List.set_cons_succ]
        refine wpAnyH_take (i := 6) (oi := { dst := some 67, op := Op.move (Operand.tmp 5), type := 31, pos := "law.go:170", after := #[{ on := 4, ground := Ground.guard }], guard := some (4, false) }) (v := ?_) rfl (by kernel_rfl) (by kernel_rfl) (by kernel_rfl) (fun _ _ _ h => h) (Or.inl ⟨by kernel_rfl, ?_⟩) (by assumption) ?_
        rotate_left 1
        · (intro wS hSw; (try dsimp only at hSw); go_simp; try with_reducible rfl)
        try simp only [Act.put, List.setIfInBounds_toArray, List.set_cons_zero, List.set_cons_succ]
        refine wpAnyH_take (i := 7) (oi := { dst := some 68, op := Op.call { callee := Callee.builtin Builtin.cap, args := #[Operand.tmp 67], argTypes := #[31] }, type := 3, pos := "law.go:170", after := #[{ on := 6, ground := Ground.data }, { on := 4, ground := Ground.guard }], guard := some (4, false) }) (v := ?_) rfl (by kernel_rfl) (by kernel_rfl) (by kernel_rfl) (fun _ _ _ h => h) (Or.inl ⟨by kernel_rfl, ?_⟩) (by assumption) ?_
        rotate_left 1
        · (intro wS hSw; (try dsimp only at hSw); go_simp; try with_reducible rfl)
        try simp only [Act.put, List.setIfInBounds_toArray, List.set_cons_zero, List.set_cons_succ]
        refine wpAnyH_take (i := 8) (oi := { dst := some 69, op := Op.slice 31 (Operand.tmp 66) none (some (Operand.tmp 68)) none, type := 31, pos := "law.go:170", after := #[{ on := 5, ground := Ground.data }, { on := 7, ground := Ground.data }, { on := 4, ground := Ground.guard }], guard := some (4, false) }) rfl (by kernel_rfl) (by kernel_rfl) (by kernel_rfl) (fun _ _ _ h => h) (Or.inl ⟨by kernel_rfl, fun wS hSw => ex_sliceH (.tmp 66) (.tmp 68) rfl rm n0 (n0 + 2) rfl _ rfl (by omega) (by omega)⟩) (by assumption) ?_
        try simp only [Act.put, List.setIfInBounds_toArray, List.set_cons_zero, List.set_cons_succ]
        refine wpAnyH_take (i := 9) (oi := { dst := some 70, op := Op.move (Operand.tmp 0), type := 31, pos := "law.go:170", after := #[{ on := 4, ground := Ground.guard }], guard := some (4, false) }) (v := ?_) rfl (by kernel_rfl) (by kernel_rfl) (by kernel_rfl) (fun _ _ _ h => h) (Or.inl ⟨by kernel_rfl, ?_⟩) (by assumption) ?_
        rotate_left 1
        · (intro wS hSw; (try dsimp only at hSw); go_simp; try with_reducible rfl)
        try simp only [Act.put, List.setIfInBounds_toArray, List.set_cons_zero, List.set_cons_succ]
        refine wpAnyH_take (i := 10) (oi := { dst := some 71, op := Op.call { callee := Callee.builtin Builtin.len, args := #[Operand.tmp 70], argTypes := #[31] }, type := 3, pos := "law.go:170", after := #[{ on := 9, ground := Ground.data }, { on := 4, ground := Ground.guard }], guard := some (4, false) }) (v := ?_) rfl (by kernel_rfl) (by kernel_rfl) (by kernel_rfl) (fun _ _ _ h => h) (Or.inl ⟨by kernel_rfl, ?_⟩) (by assumption) ?_
        rotate_left 1
        · (intro wS hSw; (try dsimp only at hSw); go_simp; try with_reducible rfl)
        try simp only [Act.put, List.setIfInBounds_toArray, List.set_cons_zero, List.set_cons_succ]
        refine wpAnyH_take (i := 11) (oi := { dst := some 72, op := Op.slice 31 (Operand.tmp 69) (some (Operand.tmp 71)) none none, type := 31, pos := "law.go:170", after := #[{ on := 8, ground := Ground.data }, { on := 10, ground := Ground.data }, { on := 4, ground := Ground.guard }], guard := some (4, false) }) rfl (by kernel_rfl) (by kernel_rfl) (by kernel_rfl) (fun _ _ _ h => h) (Or.inl ⟨by kernel_rfl, fun wS hSw => ex_sliceL (.tmp 69) (.tmp 71) rfl rm n0 rfl rfl⟩) (by assumption) ?_
        try simp only [Act.put, List.setIfInBounds_toArray, List.set_cons_zero, List.set_cons_succ]
        have HK2 : (Instr.makeSlice 31 (.int .i64 2) (.int .i64 2)).run Try.prog w12 = .ok (.slice (some ⟨w12.heap.size, 0, none⟩) 2 2) (w12.alloc (.cells (arr 68 (ec fun _ => zE)) 51)) := make_ents w12 2 2 (by omega) (by omega)
        refine wpAnyH_ready (rs := [12]) (by kernel_rfl) (by simp) ?_
        refine AllReadyH.cons (o := { dst := some 73, op := Op.makeSlice 31 (Operand.const (Value.int IntKind.i64 2)) (Operand.const (Value.int IntKind.i64 2)), type := 31, pos := "law.go:170", after := #[{ on := 4, ground := Ground.guard }], guard := some (4, false) }) rfl (fun K hK => ?_) AllReadyH.nil
        go_simp
        refine hK.out _ _ (And.intro ((((Below.refl w12.heap.size w12).alloc (Nat.le_refl _) _).cell (Nat.lt_of_lt_of_le ZZ.out Sa2.2.size)).trans Sa2.1) (Sa2.2.alloc Sa2.2.size _)) (fun hHeld12 => ?_)
        clear hK K
        try simp only [Act.put, List.setIfInBounds_toArray, List.set_cons_zero, List.set_cons_succ]
        clear HK2
        refine wpAnyH_ready (rs := [13]) (by kernel_rfl) (by simp) ?_
        refine AllReadyH.cons (o := { dst := some 74, op := Op.call { callee := Callee.value (Operand.func 24), args := #[Operand.tmp 72, Operand.tmp 73], argTypes := #[31, 31] }, type := 4, pos := "law.go:170", after := #[{ on := 11, ground := Ground.data }, { on := 12, ground := Ground.data }, { on := 4, ground := Ground.chain }, { on := 4, ground := Ground.guard }], guard := some (4, false) }) rfl (fun K hK => ?_) AllReadyH.nil
        go_simp
        refine (E2.out w12 Sa2.2).mono ?_
        rintro e w13 ⟨rfl, M13⟩
        have Sa13 := And.intro ((M13.cell (Nat.lt_of_lt_of_le ZZ.out Sa2.2.size)).trans Sa2.1) (Sa2.2.trans (M13.mono Sa2.2.size))
        refine hK.out _ _ Sa13 (fun hHeld13 => ?_)
        clear hK K
        try simp only [Act.put, List.setIfInBounds_toArray, List.set_cons_zero, List.set_cons_succ]
        refine wpAnyH_take (i := 14) (oi := { dst := some 75, op := Op.unOp UnOp.not 4 (Operand.tmp 74), type := 4, pos := "law.go:170", after := #[{ on := 13, ground := Ground.data }, { on := 4, ground := Ground.guard }], guard := some (4, false) }) (v := ?_) rfl (by kernel_rfl) (by kernel_rfl) (by kernel_rfl) (fun _ _ _ h => h) (Or.inl ⟨by kernel_rfl, ?_⟩) (by assumption) ?_
        rotate_left 1
        · (intro wS hSw; (try dsimp only at hSw); go_simp; try with_reducible rfl)
        try simp only [Act.put, List.setIfInBounds_toArray, List.set_cons_zero, List.set_cons_succ]
        refine wpAnyH_take (i := 15) (oi := { dst := some 76, op := Op.pick (Operand.tmp 65) (Operand.const (Value.bool true)) (Operand.tmp 75), type := 4, pos := "law.go:170", after := #[{ on := 4, ground := Ground.data }, { on := 14, ground := Ground.data }], guard := none }) (v := ?_) rfl (by kernel_rfl) (by kernel_rfl) (by kernel_rfl) (fun _ _ _ h => h) (Or.inl ⟨by kernel_rfl, ?_⟩) (by assumption) ?_
        rotate_left 1
        · (intro wS hSw; (try dsimp only at hSw); go_simp; try with_reducible rfl)
        try simp only [Act.put, List.setIfInBounds_toArray, List.set_cons_zero, List.set_cons_succ]
        refine wpAnyH_take (i := 16) (oi := { dst := some 77, op := Op.move (Operand.tmp 76), type := 4, pos := "law.go:170", after := #[{ on := 15, ground := Ground.data }, { on := 13, ground := Ground.chain }], guard := none }) (v := ?_) rfl (by kernel_rfl) (by kernel_rfl) (by kernel_rfl) (fun _ _ _ h => h) (Or.inl ⟨by kernel_rfl, ?_⟩) (by assumption) ?_
        rotate_left 1
        · (intro wS hSw; (try dsimp only at hSw); go_simp; try with_reducible rfl)
        try simp only [Act.put, List.setIfInBounds_toArray, List.set_cons_zero, List.set_cons_succ]
        refine wpAnyH_take (i := 17) (oi := { dst := some 78, op := Op.move (Operand.tmp 6), type := 34, pos := "law.go:170", after := #[{ on := 16, ground := Ground.guard }], guard := some (16, false) }) (v := ?_) rfl (by kernel_rfl) (by kernel_rfl) (by kernel_rfl) (fun _ _ _ h => h) (Or.inl ⟨by kernel_rfl, ?_⟩) (by assumption) ?_
        rotate_left 1
        · (intro wS hSw; (try dsimp only at hSw); go_simp; try with_reducible rfl)
        try simp only [Act.put, List.setIfInBounds_toArray, List.set_cons_zero, List.set_cons_succ]
        refine wpAnyH_take (i := 18) (oi := { dst := some 79, op := Op.fieldAddr 36 (Operand.tmp 3) 1, type := 0, pos := "law.go:170", after := #[{ on := 16, ground := Ground.guard }], guard := some (16, false) }) (v := ?_) rfl (by kernel_rfl) (by kernel_rfl) (by kernel_rfl) (fun _ _ _ h => h) (Or.inl ⟨by kernel_rfl, ?_⟩) (by assumption) ?_
        rotate_left 1
        · (intro wS hSw; (try dsimp only at hSw); go_simp; try with_reducible rfl)
        try simp only [Act.put, List.setIfInBounds_toArray, List.set_cons_zero, List.set_cons_succ]
        refine wpAnyH_take (i := 19) (oi := { dst := some 80, op := Op.load 34 (Operand.tmp 79), type := 34, pos := "law.go:170", after := #[{ on := 18, ground := Ground.data }, { on := 16, ground := Ground.guard }], guard := some (16, false) }) (v := ?_) rfl (by kernel_rfl) (by kernel_rfl) (by kernel_rfl) (fun _ _ _ h => h) (Or.inl ⟨by kernel_rfl, ?_⟩) (by assumption) ?_
        rotate_left 1
        · (intro wS hSw; (try dsimp only at hSw); go_simp; try with_reducible rfl)
        try simp only [Act.put, List.setIfInBounds_toArray, List.set_cons_zero, List.set_cons_succ]
        refine wpAnyH_ready (rs := [20]) (by kernel_rfl) (by simp) ?_
        refine AllReadyH.cons (o := { dst := some 81, op := Op.call { callee := Callee.value (Operand.func 25), args := #[Operand.tmp 78, Operand.tmp 80], argTypes := #[34, 34] }, type := 4, pos := "law.go:170", after := #[{ on := 17, ground := Ground.data }, { on := 19, ground := Ground.data }, { on := 16, ground := Ground.chain }, { on := 16, ground := Ground.guard }], guard := some (16, false) }) rfl (fun K hK => ?_) AllReadyH.nil
        go_simp
        refine (E3.out w13 Sa13.2).mono ?_
        rintro e w14 ⟨rfl, M14⟩
        have Sa20 := And.intro ((M14.cell (Nat.lt_of_lt_of_le ZZ.out Sa13.2.size)).trans Sa13.1) (Sa13.2.trans (M14.mono Sa13.2.size))
        refine hK.out _ _ Sa20 (fun hHeld20 => ?_)
        clear hK K
        try simp only [Act.put, List.setIfInBounds_toArray, List.set_cons_zero, List.set_cons_succ]
        refine wpAnyH_take (i := 21) (oi := { dst := some 82, op := Op.unOp UnOp.not 4 (Operand.tmp 81), type := 4, pos := "law.go:170", after := #[{ on := 20, ground := Ground.data }, { on := 16, ground := Ground.guard }], guard := some (16, false) }) (v := ?_) rfl (by kernel_rfl) (by kernel_rfl) (by kernel_rfl) (fun _ _ _ h => h) (Or.inl ⟨by kernel_rfl, ?_⟩) (by assumption) ?_
        rotate_left 1
        · (intro wS hSw; (try dsimp only at hSw); go_simp; try with_reducible rfl)
        try simp only [Act.put, List.setIfInBounds_toArray, List.set_cons_zero, List.set_cons_succ]
        refine wpAnyH_take (i := 22) (oi := { dst := some 83, op := Op.pick (Operand.tmp 77) (Operand.const (Value.bool true)) (Operand.tmp 82), type := 4, pos := "law.go:170", after := #[{ on := 16, ground := Ground.data }, { on := 21, ground := Ground.data }], guard := none }) (v := ?_) rfl (by kernel_rfl) (by kernel_rfl) (by kernel_rfl) (fun _ _ _ h => h) (Or.inl ⟨by kernel_rfl, ?_⟩) (by assumption) ?_
        rotate_left 1
        · (intro wS hSw; (try dsimp only at hSw); go_simp; try with_reducible rfl)
        try simp only [Act.put, List.setIfInBounds_toArray, List.set_cons_zero, List.set_cons_succ]
        refine wpAnyH_done (by kernel_rfl) ?_ _
        refine NoPanic.normal ?_
        have Q0 : Hid (Kq W z rm zo1 zo2 n0 n1 ad2 (cv t (.slice ad1 n1 cap1) s1) (ov k1 l1) (ov k2 l2) w14) := by
          have h := P11.out
          have z1 := ZR.out
          have z2 := ZD.out
          have z3 := ZA.out
          have z4 := ZB.out
          have z5 := ZP.out
          have q : Kq W z rm zo1 zo2 n0 n1 ad2 (cv t (.slice ad1 n1 cap1) s1) (ov k1 l1) (ov k2 l2) w11 := by
            refine ⟨h.keep, h.blk, OA11.out, OB.out, ⟨_, h.room⟩, by omega, fun h0 => ?_⟩
            obtain ⟨g, cap, N, F, e, h1, h2, h3⟩ := owns_blk h.par h0
            cases e
            obtain ⟨pr, e, h4, h5⟩ := ZO.out h0
            cases e
            exact ⟨_, N, F, rfl, h2, h3, by omega, by omega, by omega, by omega, by omega⟩
          exact q.step (Sa20.2)
        clear Sa2 Sa13 Sa20 M12 M13 M14 S0 P11 OA11 OB E1 E2 E3 hHeld hHeld2 hHeld12 hHeld13 hHeld20 ZO Z5
        go_wp2
        go_loopw [12] (fun i wr => ∃ j : Nat, j ≤ n0 ∧ i = .int .i64 j ∧ Hid (Kq W z rm zo1 zo2 n0 n1 ad2 (cv t (.slice ad1 n1 cap1) s1) (ov k1 l1) (ov k2 l2) wr)) (fun i _ => n0 - (intOf i).toNat)
        case atStart => exact ⟨0, Nat.zero_le _, rfl, Q0⟩
        case round =>
          obtain ⟨j, hj, rfl, hQ⟩ := hrel
          by_cases hlt : j < n0
          · have yj : (j : Int) < (n0 : Int) := by omega
            have zj : (0 : Int) ≤ (j : Int) := by omega
            have HLT := Lib.hid hlt
            have TH : Hid (wr.there rm (0 + j * 34) 34) := by
              obtain ⟨F, hF⟩ := hQ.out.room
              exact hF.there (0 + j * 34) 34 (by omega)
            clear hlt
            go_upto_region 17 with fail
            refine wp_region_lit ?_
            refine wpList_valS (v := ?_) (by kernel_rfl) ?_ ?_
            rotate_left 1
            · (go_simp; try with_reducible rfl)
            try simp only [Act.put, List.setIfInBounds_toArray, List.set_cons_zero, List.set_cons_succ]
            refine wpList_valS (v := ?_) (by kernel_rfl) ?_ ?_
            rotate_left 1
            · (go_simp; try with_reducible rfl)
            try simp only [Act.put, List.setIfInBounds_toArray, List.set_cons_zero, List.set_cons_succ]
            refine wpList_valG (by kernel_rfl) (ex_build0 rfl (bd_entry0 _)) ?_
            try simp only [Act.put, List.setIfInBounds_toArray, List.set_cons_zero, List.set_cons_succ]
            refine wpList_valG (by kernel_rfl) (ex_index 31 51 (.tmp 90) (.tmp 91) rfl rm 0 j n0 (n0 + 2) 34 rfl rfl tEntries szEntry HLT.out) ?_
            try simp only [Act.put, List.setIfInBounds_toArray, List.set_cons_zero, List.set_cons_succ]
            refine wpList_unitG (by kernel_rfl) (ex_store 51 (.tmp 93) (.tmp 92) rfl rm (0 + j * 34) 34 (ev zE) rfl rfl TH.out szEntry (fun i _ => ev_one _ i)) ?_
            try simp only [Act.put, List.setIfInBounds_toArray, List.set_cons_zero, List.set_cons_succ]
            refine wpList_nil ?_
            have Q2 := Lib.hid (hQ.out.putRoom (arr 34 (ev zE)).toList (0 + j * 34))
            clear hQ TH
            generalize wr.setCells rm (0 + j * 34) (arr 34 (ev zE)).toList = wx at Q2 ⊢
            go_wp2
            go_roundw
            case rel => exact ⟨j + 1, HLT.out, by go_num, Q2⟩
            case measure => simp [intOf]; have := HLT.out; omega
          · have ej : n0 = j := by omega
            subst ej
            have yj : (n0 : Int) ≤ (n0 : Int) := by omega
            have n20 : n1 ≤ 20 := N20.out
            clear hlt Q0
            go_wp2
            go_loopw [13] (fun i wr => ∃ j : Nat, j ≤ n1 ∧ i = .int .i64 j ∧ Hid (Kq W z rm zo1 zo2 n0 n1 ad2 (cv t (.slice ad1 n1 cap1) s1) (ov k1 l1) (ov k2 l2) wr)) (fun i _ => n1 - (intOf i).toNat)
            case atStart => exact ⟨0, Nat.zero_le _, rfl, hQ⟩
            case round =>
              obtain ⟨j, hj2, rfl, hQ2⟩ := hrel
              by_cases hlt2 : j < n1
              · have yj2 : (j : Int) < (n1 : Int) := by omega
                have zj2 : (0 : Int) ≤ (j : Int) := by omega
                have HLT := Lib.hid hlt2
                obtain ⟨pr, N, F, e, hN, hF, -⟩ := hQ2.out.par (by omega)
                subst e
                have TH : Hid (wr.there pr (0 + j * 32) 32) := hF.there (0 + j * 32) 32 (by omega)
                have H1 : Hid (0 < n1) := by show 0 < n1; omega
                clear hlt2 hN hF
                go_upto_region 21 with fail
                refine wp_region_lit ?_
                refine wpList_valS (v := ?_) (by kernel_rfl) ?_ ?_
                rotate_left 1
                · (go_simp; try with_reducible rfl)
                try simp only [Act.put, List.setIfInBounds_toArray, List.set_cons_zero, List.set_cons_succ]
                refine wpList_valS (v := ?_) (by kernel_rfl) ?_ ?_
                rotate_left 1
                · (go_simp; try with_reducible rfl)
                try simp only [Act.put, List.setIfInBounds_toArray, List.set_cons_zero, List.set_cons_succ]
                refine wpList_valG (by kernel_rfl) (ex_nine rfl) ?_
                try simp only [Act.put, List.setIfInBounds_toArray, List.set_cons_zero, List.set_cons_succ]
                refine wpList_valG (by kernel_rfl) (ex_index 34 33 (.tmp 100) (.tmp 101) rfl pr 0 j n1 cap2 32 rfl rfl tIds sz30 HLT.out) ?_
                try simp only [Act.put, List.setIfInBounds_toArray, List.set_cons_zero, List.set_cons_succ]
                refine wpList_unitG (by kernel_rfl) (ex_store 33 (.tmp 103) (.tmp 102) rfl pr (0 + j * 32) 32 (bv nine) rfl rfl TH.out sz30 (fun _ _ => rfl)) ?_
                try simp only [Act.put, List.setIfInBounds_toArray, List.set_cons_zero, List.set_cons_succ]
                refine wpList_nil ?_
                have Q2 := Lib.hid (hQ2.out.putPar H1.out (arr 32 (bv nine)).toList (0 + j * 32))
                clear hQ hQ2 TH
                generalize wr.setCells pr (0 + j * 32) (arr 32 (bv nine)).toList = wx at Q2 ⊢
                go_wp2
                go_roundw
                case rel => exact ⟨j + 1, HLT.out, by go_num, Q2⟩
                case measure => simp [intOf]; have := HLT.out; omega
              · have ej : n1 = j := by omega
                subst ej
                have yj2 : (n1 : Int) ≤ (n1 : Int) := by omega
                clear hlt2 hQ
                go_upto_region 22 with fail
                go_wp2_with fail
                refine (HT.out _ _ (R0.out.below hQ2.out.keep)).mono ?_
                rintro e w20 ⟨rfl, L20⟩
                have A21 := (Below.refl w20.heap.size w20).alloc (Nat.le_refl _) (.cells #[.int .i64 k1, .string (bs l1)] 24)
                have Q21 := Lib.hid ((hQ2.out.step L20).step A21)
                have OC : Hid (Blk (w20.alloc (.cells #[.int .i64 k1, .string (bs l1)] 24)) w20.heap.size 24 2 (ov k1 l1)) := Blk.newAt _ (heap_alloc_new _ _) rfl
                clear A21 L20 hQ2
                go_upto_region 23 with fail
                change Code.wp _ _ _ _ (w20.alloc (.cells #[.int .i64 k1, .string (bs l1)] 24))
                generalize w20.alloc (.cells #[.int .i64 k1, .string (bs l1)] 24) = w21 at Q21 OC ⊢
                generalize w20.heap.size = zo3 at OC ⊢
                have I21 := Lib.hid Q21.out.blk.at0
                go_wp2_with (refine wpList_val rfl _ _ (ex_load 36 (.tmp 3) rfl z 0 34 (cv t (.slice ad1 n1 cap1) s1) rfl Try.underlying36 rfl szCommit I21.out) ?_)
                refine (HM.out _ _ (R1.out.below Q21.out.keep)).mono ?_
                rintro e w22 ⟨rfl, L22⟩
                have A23 := (Below.refl w22.heap.size w22).alloc (Nat.le_refl _) (.cells #[.int .i64 k2, .string (bs l2)] 24)
                have Q23 := Lib.hid ((Q21.out.step L22).step A23)
                have OC3 := Lib.hid ((OC.out.below L22 OC.out.lt).below A23 (Nat.lt_of_lt_of_le OC.out.lt L22.size))
                have OD : Hid (Blk (w22.alloc (.cells #[.int .i64 k2, .string (bs l2)] 24)) w22.heap.size 24 2 (ov k2 l2)) := Blk.newAt _ (heap_alloc_new _ _) rfl
                clear A23 L22 Q21 OC I21
                go_upto_region 24 with fail
                change Code.wp _ _ _ _ (w22.alloc (.cells #[.int .i64 k2, .string (bs l2)] 24))
                generalize w22.alloc (.cells #[.int .i64 k2, .string (bs l2)] 24) = w23 at Q23 OC3 OD ⊢
                generalize w22.heap.size = zo4 at OD ⊢
                refine wp_region_lit ?_
                refine wpList_callG (by kernel_rfl) fun K hK => ?_
                go_simp
                refine (HA.out _).mono ?_
                rintro e w24 ⟨rfl, L24⟩
                refine hK _ _ ?_
                clear hK K
                try simp only [Act.put, List.setIfInBounds_toArray, List.set_cons_zero, List.set_cons_succ]
                have Q24 := Lib.hid (Q23.out.step L24)
                have OC4 := Lib.hid (OC3.out.below L24 OC3.out.lt)
                have OD4 := Lib.hid (OD.out.below L24 OD.out.lt)
                clear L24 Q23 OC3 OD
                refine wpList_valS (v := ?_) (by kernel_rfl) ?_ ?_
                rotate_left 1
                · (go_simp; try with_reducible rfl)
                try simp only [Act.put, List.setIfInBounds_toArray, List.set_cons_zero, List.set_cons_succ]
                refine wpList_valG (by kernel_rfl) (ex_load 24 (.tmp 8) rfl zo1 0 2 (ov k1 l1) rfl Try.underlying24 rfl szObject Q24.out.oa.at0) ?_
                try simp only [Act.put, List.setIfInBounds_toArray, List.set_cons_zero, List.set_cons_succ]
                refine wpList_valG (by kernel_rfl) (ex_load 24 (.tmp 14) rfl zo3 0 2 (ov k1 l1) rfl Try.underlying24 rfl szObject OC4.out.at0) ?_
                try simp only [Act.put, List.setIfInBounds_toArray, List.set_cons_zero, List.set_cons_succ]
                refine wpList_valG (by kernel_rfl) (ex_obj 24 (.tmp 116) (.tmp 117) rfl k1 l1 rfl rfl) ?_
                try simp only [Act.put, List.setIfInBounds_toArray, List.set_cons_zero, List.set_cons_succ]
                refine wpList_valS (v := ?_) (by kernel_rfl) ?_ ?_
                rotate_left 1
                · (go_simp; try with_reducible rfl)
                try simp only [Act.put, List.setIfInBounds_toArray, List.set_cons_zero, List.set_cons_succ]
                refine wpList_valS (v := ?_) (by kernel_rfl) ?_ ?_
                rotate_left 1
                · (go_simp; try with_reducible rfl)
                try simp only [Act.put, List.setIfInBounds_toArray, List.set_cons_zero, List.set_cons_succ]
                refine wpList_valS (v := ?_) (by kernel_rfl) ?_ ?_
                rotate_left 1
                · (go_simp; try with_reducible rfl)
                try simp only [Act.put, List.setIfInBounds_toArray, List.set_cons_zero, List.set_cons_succ]
                refine wpList_valS (v := ?_) (by kernel_rfl) ?_ ?_
                rotate_left 1
                · (go_simp; try with_reducible rfl)
                try simp only [Act.put, List.setIfInBounds_toArray, List.set_cons_zero, List.set_cons_succ]
                refine wpList_valS (v := ?_) (by kernel_rfl) ?_ ?_
                rotate_left 1
                · (go_simp; try with_reducible rfl)
                try simp only [Act.put, List.setIfInBounds_toArray, List.set_cons_zero, List.set_cons_succ]
                refine wpList_valS (v := ?_) (by kernel_rfl) ?_ ?_
                rotate_left 1
                · (go_simp; try with_reducible rfl)
                try simp only [Act.put, List.setIfInBounds_toArray, List.set_cons_zero, List.set_cons_succ]
                refine wpList_valS (v := ?_) (by kernel_rfl) ?_ ?_
                rotate_left 1
                · (go_simp; try with_reducible rfl)
                try simp only [Act.put, List.setIfInBounds_toArray, List.set_cons_zero, List.set_cons_succ]
                refine wpList_valG (by kernel_rfl) (ex_load 24 (.tmp 10) rfl zo2 0 2 (ov k2 l2) rfl Try.underlying24 rfl szObject Q24.out.ob.at0) ?_
                try simp only [Act.put, List.setIfInBounds_toArray, List.set_cons_zero, List.set_cons_succ]
                refine wpList_valG (by kernel_rfl) (ex_load 24 (.tmp 16) rfl zo4 0 2 (ov k2 l2) rfl Try.underlying24 rfl szObject OD4.out.at0) ?_
                try simp only [Act.put, List.setIfInBounds_toArray, List.set_cons_zero, List.set_cons_succ]
                refine wpList_valG (by kernel_rfl) (ex_obj 24 (.tmp 126) (.tmp 127) rfl k2 l2 rfl rfl) ?_
                try simp only [Act.put, List.setIfInBounds_toArray, List.set_cons_zero, List.set_cons_succ]
                refine wpList_valS (v := ?_) (by kernel_rfl) ?_ ?_
                rotate_left 1
                · (go_simp; try with_reducible rfl)
                try simp only [Act.put, List.setIfInBounds_toArray, List.set_cons_zero, List.set_cons_succ]
                refine wpList_valS (v := ?_) (by kernel_rfl) ?_ ?_
                rotate_left 1
                · (go_simp; try with_reducible rfl)
                try simp only [Act.put, List.setIfInBounds_toArray, List.set_cons_zero, List.set_cons_succ]
                refine wpList_valS (v := ?_) (by kernel_rfl) ?_ ?_
                rotate_left 1
                · (go_simp; try with_reducible rfl)
                try simp only [Act.put, List.setIfInBounds_toArray, List.set_cons_zero, List.set_cons_succ]
                refine wpList_valS (v := ?_) (by kernel_rfl) ?_ ?_
                rotate_left 1
                · (go_simp; try with_reducible rfl)
                try simp only [Act.put, List.setIfInBounds_toArray, List.set_cons_zero, List.set_cons_succ]
                refine wpList_valS (v := ?_) (by kernel_rfl) ?_ ?_
                rotate_left 1
                · (go_simp; try with_reducible rfl)
                try simp only [Act.put, List.setIfInBounds_toArray, List.set_cons_zero, List.set_cons_succ]
                refine wpList_valS (v := ?_) (by kernel_rfl) ?_ ?_
                rotate_left 1
                · (go_simp; try with_reducible rfl)
                try simp only [Act.put, List.setIfInBounds_toArray, List.set_cons_zero, List.set_cons_succ]
                refine wpList_valS (v := ?_) (by kernel_rfl) ?_ ?_
                rotate_left 1
                · (go_simp; try with_reducible rfl)
                try simp only [Act.put, List.setIfInBounds_toArray, List.set_cons_zero, List.set_cons_succ]
                refine wpList_nil ?_
                go_wp2
                go_ret
                exact ⟨rfl, Q24.out.keep⟩
end Go.Proofs.Ytiajfhoiedkaaaa
