import Derived.Test.YtlbclfponongbaaGreatDoorO16m
/- Trees made: the program's walk. -/
namespace Go.Proofs.YtlbclfponongbaaGreatDoor
open Go.RowKit Classical
theorem sorto_any {es : Nat → Ent} {n B : Nat} {v : Value} {w : World} (ho : w.ownsRow B 56 34 v n (arr (n * 34) (ec es)).toList) (hn : n ≤ 100000) :
    Calls Tryz.prog 40 #[v, .func (.func 41) #[] #[]] w fun e w' => e = .returned (.tuple #[]) ∧ ∃ fs, PermE es fs n ∧ SortE fs n ∧ Row w' v 34 (ec fs) n ∧ Keep (fun k => k < B) w w' := by
  by_cases h0 : 0 < n
  · obtain ⟨g, cap, rfl, h1, h2, h3, h4, h5⟩ := owns_block ho h0
    refine (sort_any es n g cap w h3 h4 (fun j _ => by rw [Nat.zero_add]; exact h5 j) hn).mono ?_
    rintro e w' ⟨rfl, fs, p1, p2, p3, p4, p5⟩
    exact ⟨rfl, fs, p1, p2, row_of h1 fun _ => ⟨g, 0, rfl, Nat.lt_of_lt_of_le h3 p5.size, p3⟩, p5.mono fun k hk _ => by omega⟩
  · have e : n = 0 := by omega
    subst e
    obtain ⟨ad, cap, rfl⟩ := owns_shape ho
    refine (sort_none ad cap _ w).mono ?_
    rintro e w' ⟨rfl, rfl⟩
    exact ⟨rfl, es, List.Perm.refl _, fun i j hi hj => absurd hj (by omega), Or.inl ⟨_, _, rfl, rfl⟩, Keep.refl _ _⟩
def treeOk (es : Nat → Ent) (n : Nat) : Prop := ∃ gs, PermE es gs n ∧ entsOk gs n
theorem perm_name {es fs : Nat → Ent} {n M : Nat} (hp : PermE es fs n) (h : ∀ i, i < n → (es i).name.length ≤ M) : ∀ i, i < n → (fs i).name.length ≤ M := by
  intro i hi
  have hm : fs i ∈ lst fs n := by unfold lst; exact List.mem_map.2 ⟨i, List.mem_range.2 hi, rfl⟩
  obtain ⟨j, hj, e⟩ := lst_mem (hp.symm.mem_iff.1 hm)
  rw [← e]
  exact h j hj
theorem treeOk_iff {es fs : Nat → Ent} {n : Nat} (hp : PermE es fs n) (hs : SortE fs n) : entsOk fs n ↔ treeOk es n := by
  constructor
  · exact fun h => ⟨fs, hp, h⟩
  · rintro ⟨gs, hq, hg⟩
    exact entsOk_congr (fun i hi => by rw [sorted_one hp hs hq hg i hi]; exact eqE.refl _) hg
theorem tree_bytes {es fs gs : Nat → Ent} {n : Nat} (hp : PermE es fs n) (hs : SortE fs n) (hq : PermE es gs n) (hg : entsOk gs n) : tb gs n = tb fs n :=
  tb_congr fun i hi => by rw [sorted_one hp hs hq hg i hi]
/- in a round: the writer has l, the entry lies in block xb -/
structure Pe (B : Nat) (w0 : World) (h xb : Nat) (x : Ent) (l : List UInt8) (w : World) : Prop where
  keep : Keep (· < B) w0 w
  wr : Wr (fun k => k < B ∨ k = xb) w h l
  blk : Blk w xb 56 34 (ev x)
theorem Pe.step {B : Nat} {w0 : World} {h xb : Nat} {x : Ent} {l l' : List UInt8} {w w' : World} (p : Pe B w0 h xb x l w) (hw : Wr (fun k => k < B ∨ k = xb) w' h l') (hk : Keep (fun k => k < B ∨ k = xb) w w') : Pe B w0 h xb x l' w' :=
  ⟨p.keep.trans (hk.mono fun k hk _ => Or.inl hk), hw, hk.blk (Or.inr rfl) p.blk⟩
theorem Pe.start {B : Nat} {w0 w : World} {h : Nat} {x : Ent} {l : List UInt8} (hk : Keep (· < B) w0 w) (hw : Wr (· < B) w h l) : Pe B w0 h w.heap.size x l (w.alloc (.cells (arr 34 (ev x)) 56)) :=
  ⟨hk.alloc _, hw.add _, Blk.newAt _ (heap_alloc_new _ _) rfl⟩
theorem eb_le (e : Ent) (h : e.name.length ≤ 32) : (eb e).length ≤ 100 := by
  unfold eb
  have h1 := dg_le6 (clamp_le e.kind)
  have h2 := dg_le6 (clamp_le (e.name.length : Int))
  rw [List.length_append, List.length_append, idL_length, tx_len]
  omega
theorem tb_le (es : Nat → Ent) (k : Nat) (h : ∀ i, i < k → (es i).name.length ≤ 32) : (tb es k).length ≤ 100 * k := by
  induction k with
  | zero => exact Nat.le_refl _
  | succ k ih =>
    have h1 := ih (fun i hi => h i (by omega))
    have h2 := eb_le (es k) (h k (by omega))
    show (tb es k ++ eb (es k)).length ≤ _
    rw [List.length_append]; omega
theorem tStrs : Tryz.prog.underlying 90 = some (.slice 9) := by kernel_rfl
theorem szObject : (Tryz.prog.info? 23).map (·.size) = some 2 := by kernel_rfl
theorem ov_one (k : Int) (l : List UInt8) (i : Nat) : (ov k l i).oneCell' = true := by unfold ov; split <;> rfl
set_option maxHeartbeats 2000000 in
set_option maxRecDepth 100000 in
theorem tree_any (es : Nat → Ent) (v : Value) (n : Nat) (w : World) (hR : Row w v 34 (ec es) n) (hs : ∀ i, i < n → (es i).name.length ≤ 281474976710656) :
    Calls Tryz.prog 21 #[v] w fun e w' => (∀ gs, PermE es gs n → entsOk gs n → e = .returned (.tuple #[.agg (arr 2 (ov 2 (tb gs n))), .int .i64 0])) ∧ (¬ treeOk es n → e = .returned (.tuple #[.agg (arr 2 (ov 0 [])), .int .i64 1])) ∧ Below w.heap.size w w' := by
  have HRow := Lib.hid hR
  have HS := Lib.hid hs
  obtain ⟨ad, cap, rfl, -⟩ := row_addr hR
  clear hR hs
  have B0 : Blk (w.alloc (.cells (arr 2 (ov 0 [])) 23)) w.heap.size 23 2 (ov 0 []) := Blk.newAt _ (heap_alloc_new _ _) rfl
  have L0 : Hid (Below w.heap.size w (w.alloc (.cells (arr 2 (ov 0 [])) 23))) := (Below.refl _ _).alloc (Nat.le_refl _) _
  go_enter Tryz.func21, Tryz.ntmps21
  go_upto_region 1 with fail
  change Code.wp _ _ _ _ (w.alloc (.cells (arr 2 (ov 0 [])) 23))
  have R0 : Hid (Row (w.alloc (.cells (arr 2 (ov 0 [])) 23)) (.slice ad n cap) 34 (ec es) n) := HRow.out.below L0.out
  have Z0 : Hid (w.heap.size < (w.alloc (.cells (arr 2 (ov 0 [])) 23)).heap.size) := B0.lt
  have BZ := Lib.hid B0
  clear B0 HRow
  generalize hzr : w.heap.size = zr at Z0 BZ ⊢
  have HZ := Lib.hid hzr
  clear hzr
  generalize w.alloc (.cells (arr 2 (ov 0 [])) 23) = w1 at L0 R0 Z0 BZ ⊢
  by_cases h32 : 32 < n
  · have NO : Hid (¬ treeOk es n) := fun ⟨gs, _, hg⟩ => by have := hg.1; omega
    have t1 : (32 : Int) < (n : Int) := by omega
    clear h32
    go_upto_region 2 with fail
    refine wp_region_lit ?_
    refine wpList_valS (v := ?_) (by kernel_rfl) ?_ ?_
    rotate_left 1
    · (go_simp; try with_reducible rfl)
    try simp only [Act.put, List.setIfInBounds_toArray, List.set_cons_zero, List.set_cons_succ]
    refine wpList_unitG (by kernel_rfl) (ex_store 23 (.tmp 2) (.tmp 11) rfl zr 0 2 (ov 0 []) rfl rfl (BZ.out.there 0 2 (by omega)) szObject (fun i _ => ov_one _ _ i)) ?_
    try simp only [Act.put, List.setIfInBounds_toArray, List.set_cons_zero, List.set_cons_succ]
    refine wpList_valS (v := ?_) (by kernel_rfl) ?_ ?_
    rotate_left 1
    · (go_simp; try with_reducible rfl)
    try simp only [Act.put, List.setIfInBounds_toArray, List.set_cons_zero, List.set_cons_succ]
    refine wpList_nil ?_
    have B3 := BZ.out.over (ov 0 [])
    have L3 : Hid (Below w.heap.size w (w1.setCells zr 0 (arr 2 (ov 0 [])).toList)) := ((keepAll L0.out).trans ((keep_setCells (b := zr) _ 0 w1).mono fun b hb _ => by have := HZ.out; omega)).below (Nat.le_refl _)
    clear BZ L0
    generalize w1.setCells zr 0 (arr 2 (ov 0 [])).toList = w3 at B3 L3 ⊢
    go_wp2
    exact bodyPost_ret (results_blk2 rfl _ _ zr 23 2 (ov 0 []) B3 _ rfl Tryz.underlying23 rfl szObject) rfl ⟨fun gs h1 h2 => absurd ⟨gs, h1, h2⟩ NO.out, fun _ => rfl, L3.out⟩
  · have t1 : decide ((32 : Int) < (n : Int)) = false := by simp; omega
    have H32 : Hid (n ≤ 32) := by show n ≤ 32; omega
    have HCl := Lib.hid (clonee_any R0.out (by omega))
    clear h32 R0
    go_wp2_with fail
    refine HCl.out.mono ?_
    rintro e w2 ⟨v2, rfl, O2, L2⟩
    have HSo := Lib.hid (sorto_any O2 (by have := H32.out; omega))
    have Z2 : Hid (zr < w1.heap.size ∧ w1.heap.size ≤ w2.heap.size) := ⟨Z0.out, L2.size⟩
    have BZ2 := Lib.hid (BZ.out.below L2 Z0.out)
    have L2' := Lib.hid (L0.out.trans (L2.mono (Nat.le_of_lt (by have := Z0.out; have := HZ.out; omega))))
    obtain ⟨ad2, cap2, rfl⟩ := owns_shape O2
    clear O2 L2 HCl BZ L0 t1
    go_wp2_with fail
    refine HSo.out.mono ?_
    rintro e w3 ⟨rfl, fs, hp, hso, R3, K3⟩
    have BZ3 := Lib.hid (K3.blk Z2.out.1 BZ2.out)
    have L3 := Lib.hid ((keepAll L2'.out).trans (K3.mono fun k hk _ => by have := HZ.out; have := Z2.out; omega))
    have HR3 := Lib.hid R3
    have HN3 := Lib.hid (perm_name hp HS.out)
    have HE := Lib.hid (oents_any fs (.slice ad2 n cap2) n w3 R3 (by have := H32.out; omega) HN3.out)
    have HP := Lib.hid hp
    have HSO := Lib.hid hso
    have TI := Lib.hid (treeOk_iff hp hso)
    clear HSo BZ2 L2' hp hso R3 K3 HN3
    by_cases hok : entsOk fs n
    · rw [decide_eq_true hok] at HE
      have HOK := Lib.hid hok
      clear hok
      go_wp2_with fail
      refine HE.out.mono ?_
      rintro e w4 ⟨rfl, L4⟩
      have BZ4 := Lib.hid (BZ3.out.below L4 BZ3.out.lt)
      have K4 := Lib.hid (L3.out.trans (Keep.all L4))
      have R4 := Lib.hid (HR3.out.below L4)
      have HZ4 := Lib.hid BZ4.out.lt
      clear HE L4 BZ3 L3 HR3
      go_upto_region 8 with fail
      have W0 : Hid (Wr (· < w4.heap.size) (w4.alloc (.cells #[.slice none 0 0] 61)) w4.heap.size []) := Wr.new fun k h => h
      have K0 : Hid (Keep (· < w4.heap.size) w4 (w4.alloc (.cells #[.slice none 0 0] 61))) := (Keep.refl _ w4).alloc _
      change Code.wp _ _ _ _ (w4.alloc (.cells #[.slice none 0 0] 61))
      obtain ⟨ad3, cap3, e3, ha⟩ := row_addr R4.out
      cases e3
      have HA := Lib.hid ha
      clear ha
      generalize w4.alloc (.cells #[.slice none 0 0] 61) = w5 at W0 K0 ⊢
      generalize hh : w4.heap.size = hb at W0 K0 HZ4 ⊢
      have HH := Lib.hid hh
      clear hh
      go_wp2
      go_loopw [22] (fun i wr => ∃ k : Nat, k ≤ n ∧ i = .int .i64 k ∧ Hid (Wr (· < hb) wr hb (tb fs k)) ∧ Hid (Keep (· < hb) w4 wr)) (fun i _ => n - (intOf i).toNat)
      case atStart => exact ⟨0, Nat.zero_le _, rfl, W0, K0⟩
      case round =>
        obtain ⟨k, hk, rfl, hW, hK⟩ := hrel
        by_cases hlt : k < n
        · obtain ⟨b, o, rfl, hb4, hc0⟩ := HA.out (by omega)
          have hc : At wr b o (n * 34) (ec fs) := hc0.keep hK.out (by have := HH.out; omega)
          have ck := hc.ent k hlt
          have zk : (0 : Int) ≤ (k : Int) := by omega
          have yk : (k : Int) < (n : Int) := by omega
          have HLT := Lib.hid hlt
          have P0 := Lib.hid (Pe.start (x := fs k) hK.out hW.out)
          have nm : Hid ((fs k).name.length ≤ 32) := (HOK.out.2.1 k hlt).1.2.1
          have tl : Hid ((tb fs k).length ≤ 3200) := by
            show _ ≤ _
            have := tb_le fs k fun i hi => (HOK.out.2.1 i (by omega)).1.2.1
            have := H32.out
            omega
          have tb1 : Hid (tb fs k ++ dg (clamp (fs k).kind) ++ tx (fs k).name ++ idL (fs k).id = tb fs (k + 1)) := by
            show _ = tb fs k ++ eb (fs k)
            unfold eb
            simp [List.append_assoc]
          clear hc hc0 hb4 hlt
          go_upto_region 11 with (first | (refine wpList_val rfl _ _ (ex_load 56 (.tmp 24) rfl b (o + k * 34) 34 (ev (fs k)) rfl Tryz.underlying56 rfl szEntry ck) ?_) | (refine wpList_store_blk rfl 56 (.tmp 7) (.tmp 25) rfl wr.heap.size 34 (ev (fs k)) (ev ⟨[], 0, fun _ => 0⟩) rfl rfl 56 (Blk.newAt _ (heap_alloc_new _ _) rfl) szEntry (fun i _ => ev_one _ i) ?_))
          rw [World.setRow_alloc_new]
          clear ck hW hK
          generalize wr.alloc (.cells (arr 34 (ev (fs k))) 56) = w6 at P0 ⊢
          generalize wr.heap.size = xb at P0 ⊢
          have c1 : w6.cell? ⟨xb, 1, none⟩ = some (.int .i64 (fs k).kind) := P0.out.blk.cell 1 (by omega)
          go_wp2_with fail
          refine (num_call P0.out.wr (fs k).kind _ rfl (by have := tl.out; omega)).mono ?_
          rintro e w7 ⟨rfl, g, kk⟩
          have P1 := Lib.hid (P0.out.step g kk)
          have c0 : w7.cell? ⟨xb, 0, none⟩ = some (.string (bs (fs k).name)) := P1.out.blk.cell 0 (by omega)
          clear g kk P0 c1
          go_wp2_with fail
          refine (text_call P1.out.wr (fs k).name _ rfl (by have := tl.out; have := nm.out; have := dg_le6 (clamp_le (fs k).kind); rw [List.length_append]; omega)).mono ?_
          rintro e w8 ⟨rfl, g, kk⟩
          have P2 := Lib.hid (P1.out.step g kk)
          clear g kk P1 c0
          go_upto_region 13 with fail
          refine wp_region_lit ?_
          refine wpList_valG (by kernel_rfl) (ex_field fE2 (.tmp 7) rfl xb 0 rfl) ?_
          try simp only [Act.put, List.setIfInBounds_toArray, List.set_cons_zero, List.set_cons_succ]
          refine wpList_valG (by kernel_rfl) (ex_load 29 (.tmp 34) rfl xb 2 32 (bv (fs k).id) rfl Tryz.underlying29 rfl sz30 (P2.out.blk.at0.part 2 32 _ (by omega) (fun j _ => ev_id _ j))) ?_
          try simp only [Act.put, List.setIfInBounds_toArray, List.set_cons_zero, List.set_cons_succ]
          refine wpList_valG (by kernel_rfl) (ex_bslice 35 29 (.tmp 35) rfl 32 (bv (fs k).id) rfl tIds zId (by decide) (by decide)) ?_
          try simp only [Act.put, List.setIfInBounds_toArray, List.set_cons_zero, List.set_cons_succ]
          refine wpList_callG (by kernel_rfl) fun K hK => ?_
          go_simp
          refine (id_call P2.out.wr (fs k).id _ _ rfl rfl (by have := tl.out; have := nm.out; have := dg_le6 (clamp_le (fs k).kind); have := dg_le6 (clamp_le ((fs k).name.length : Int)); rw [List.length_append, List.length_append, tx_len]; omega)).mono ?_
          rintro e w9 ⟨rfl, g, kk⟩
          refine hK _ _ ?_
          clear hK K
          try simp only [Act.put, List.setIfInBounds_toArray, List.set_cons_zero, List.set_cons_succ]
          refine wpList_nil ?_
          have P3 := Lib.hid (P2.out.step g kk)
          clear g kk P2
          have n32 := H32.out
          go_wp2
          go_roundw
          case rel => exact ⟨k + 1, HLT.out, by go_num, by rw [← tb1.out]; exact P3.out.wr.mono (fun k hk => Or.inl hk), P3.out.keep⟩
          case measure => simp [intOf]; have := HLT.out; omega
        · have ek : k = n := by omega
          subst ek
          have yk : (k : Int) ≤ (k : Int) := by omega
          have BZ5 := Lib.hid (hK.out.blk (by have := HZ4.out; omega) BZ4.out)
          have L5 := Lib.hid (K4.out.trans (hK.out.mono fun b hb' hl => by have := K4.out.size; have := HH.out; omega))
          clear hlt W0 K0
          go_upto_region 15 with fail
          refine wp_region_lit ?_
          refine wpList_callG (by kernel_rfl) fun K hK => ?_
          go_simp
          refine (wstr_any hW.out).mono ?_
          rintro e w9 ⟨rfl, rfl⟩
          refine hK _ _ ?_
          clear hK K
          try simp only [Act.put, List.setIfInBounds_toArray, List.set_cons_zero, List.set_cons_succ]
          refine wpList_valS (v := ?_) (by kernel_rfl) ?_ ?_
          rotate_left 1
          · (go_simp; try with_reducible rfl)
          try simp only [Act.put, List.setIfInBounds_toArray, List.set_cons_zero, List.set_cons_succ]
          refine wpList_unitG (by kernel_rfl) (ex_store 23 (.tmp 2) (.tmp 40) rfl zr 0 2 (ov 2 (tb fs k)) rfl rfl (BZ5.out.there 0 2 (by omega)) szObject (fun i _ => ov_one _ _ i)) ?_
          try simp only [Act.put, List.setIfInBounds_toArray, List.set_cons_zero, List.set_cons_succ]
          refine wpList_valS (v := ?_) (by kernel_rfl) ?_ ?_
          rotate_left 1
          · (go_simp; try with_reducible rfl)
          try simp only [Act.put, List.setIfInBounds_toArray, List.set_cons_zero, List.set_cons_succ]
          refine wpList_nil ?_
          have B3 := BZ5.out.over (ov 2 (tb fs k))
          have L3 : Hid (Below w.heap.size w (wr.setCells zr 0 (arr 2 (ov 2 (tb fs k))).toList)) := (L5.out.trans ((keep_setCells (b := zr) _ 0 wr).mono fun b hb _ => by have := HZ.out; omega)).below (Nat.le_refl _)
          clear BZ5 L5
          generalize wr.setCells zr 0 (arr 2 (ov 2 (tb fs k))).toList = w10 at B3 L3 ⊢
          go_wp2
          exact bodyPost_ret (results_blk2 rfl _ _ zr 23 2 (ov 2 (tb fs k)) B3 _ rfl Tryz.underlying23 rfl szObject) rfl ⟨fun gs h1 h2 => by rw [tree_bytes HP.out HSO.out h1 h2]; rfl, fun h => absurd (TI.out.1 HOK.out) h, L3.out⟩
    · rw [decide_eq_false hok] at HE
      have NO : Hid (¬ treeOk es n) := fun h => hok (TI.out.2 h)
      clear hok
      go_wp2_with fail
      refine HE.out.mono ?_
      rintro e w4 ⟨rfl, L4⟩
      have BZ4 := Lib.hid (BZ3.out.below L4 BZ3.out.lt)
      have K4 := Lib.hid (L3.out.trans (Keep.all L4))
      clear HE L4 BZ3 L3 HR3
      go_upto_region 6 with fail
      refine wp_region_lit ?_
      refine wpList_valS (v := ?_) (by kernel_rfl) ?_ ?_
      rotate_left 1
      · (go_simp; try with_reducible rfl)
      try simp only [Act.put, List.setIfInBounds_toArray, List.set_cons_zero, List.set_cons_succ]
      refine wpList_unitG (by kernel_rfl) (ex_store 23 (.tmp 2) (.tmp 19) rfl zr 0 2 (ov 0 []) rfl rfl (BZ4.out.there 0 2 (by omega)) szObject (fun i _ => ov_one _ _ i)) ?_
      try simp only [Act.put, List.setIfInBounds_toArray, List.set_cons_zero, List.set_cons_succ]
      refine wpList_valS (v := ?_) (by kernel_rfl) ?_ ?_
      rotate_left 1
      · (go_simp; try with_reducible rfl)
      try simp only [Act.put, List.setIfInBounds_toArray, List.set_cons_zero, List.set_cons_succ]
      refine wpList_nil ?_
      have B3 := BZ4.out.over (ov 0 [])
      have L3 : Hid (Below w.heap.size w (w4.setCells zr 0 (arr 2 (ov 0 [])).toList)) := (K4.out.trans ((keep_setCells (b := zr) _ 0 w4).mono fun b hb _ => by have := HZ.out; omega)).below (Nat.le_refl _)
      clear BZ4 K4
      generalize w4.setCells zr 0 (arr 2 (ov 0 [])).toList = w3 at B3 L3 ⊢
      go_wp2
      exact bodyPost_ret (results_blk2 rfl _ _ zr 23 2 (ov 0 []) B3 _ rfl Tryz.underlying23 rfl szObject) rfl ⟨fun gs h1 h2 => absurd ⟨gs, h1, h2⟩ NO.out, fun _ => rfl, L3.out⟩
end Go.Proofs.YtlbclfponongbaaGreatDoor
