import Derived.Test.YtnmjcpoobabjgaaGreatDoorO8m
set_option linter.unusedVariables false
set_option linter.unusedSimpArgs false
/- A tree's body read: the program's walk. -/
namespace Go.Proofs.YtnmjcpoobabjgaaGreatDoor
open Go.RowKit Classical
section
variable {P : Program}
theorem ex_build {o : Oper} {a : Act} {w : World} {t : TypeId} {parts : Array (Nat × Operand)} (ho : o.op = .build t parts) {vs : Array (Nat × Value)} (hv : parts.map (fun x => (x.1, a.eval x.2)) = vs) {v : Value} (hr : (Instr.build t vs).run P w = .ok v w) :
  (execOp a.eval o).run P w = .ok (.value v) w := by
 subst hv
 unfold execOp
 simp only [ho, Sem.run_bind]
 rw [hr]
 rfl
end
theorem ex_entry {o : Oper} {a : Act} {w : World} (x0 x1 x2 : Operand) (ho : o.op = .build 164 #[(0, x0), (1, x1), (2, x2)]) (n : List UInt8) (k : Int) (f : Nat → UInt8) (h0 : a.eval x0 = .string (bs n)) (h1 : a.eval x1 = .int .i64 k) (h2 : a.eval x2 = .agg (arr 32 (bv f))) :
  (execOp a.eval o).run Tryz.prog w = .ok (.value (.agg (arr 34 (ev ⟨n, k, f⟩)))) w :=
 ex_build ho (by simp [h0, h1, h2]) (bd_entry w n k f)
/- what holds in the loop of readTree: z the block of what is said, r the reader -/
structure TS (B z r : Nat) (w0 : World) (l : List UInt8) (es : Nat → Ent) (k : Nat) (v : Value) (p : Nat) (e : Int) (w : World) : Prop where
 keep : Keep (fun b => b < B ∧ b ≠ z) w0 w
 said : Blk w z 150 35 (sv v (fun _ => 0) (.slice none 0 0) [])
 row : w.ownsRow B 164 34 v k (arr (k * 34) (ec es)).toList
 rd : Rd w r l p e
 pi : PI l es k p e
 apart : v.ownBlock ≠ some r
theorem TS.below {B z r : Nat} {w0 : World} {l : List UInt8} {es : Nat → Ent} {k : Nat} {v : Value} {p : Nat} {e : Int} {w w' : World} (h : TS B z r w0 l es k v p e w) (hb : Below w.heap.size w w') : TS B z r w0 l es k v p e w' :=
 ⟨h.keep.trans (Keep.all hb), h.said.below hb h.said.lt, owns_all h.row hb, h.rd.keep (K := fun _ => True) (Keep.all hb) trivial, h.pi, h.apart⟩
theorem ec_up (es : Nat → Ent) (k : Nat) (x : Ent) : arr (k * 34) (ec (upE es k x)) = arr (k * 34) (ec es) := arr_congr fun i hi => by
 unfold ec
 rw [upE_old es k x _ (by omega)]
/- behind a round -/
theorem TS.next {B z r : Nat} {w0 w2 w4 w5 w6 : World} {l : List UInt8} {es : Nat → Ent} {k p p3 g cap : Nat} {v : Value} {e3 : Int} {x : Ent} (hz : z < B) (hr : B ≤ r) (h : TS B z r w0 l es k v p 0 w2) (hk4 : Keep (fun k => k ≠ r) w2 w4) (k5 : Keep (fun k => k ≠ r) w4.drew w5) (r5 : Rd w5 r l p3 e3)
  (ho : w6.ownsRow B 164 34 (.slice (some ⟨g, 0, none⟩) (k + 1) cap) (k + 1) (arr ((k + 1) * 34) (ec (upE es k x))).toList) (k6 : Keep (fun k => v.ownBlock ≠ some k) w5 w6) (hat : v.ownBlock = some g ∨ g = w5.heap.size + 1) (hpi : PI l (upE es k x) (k + 1) p3 e3) :
  w6.cell? ⟨z, 0, none⟩ = some v ∧ w6.frozen? ⟨z, 0, none⟩ = false ∧ TS B z r w0 l (upE es k x) (k + 1) (.slice (some ⟨g, 0, none⟩) (k + 1) cap) p3 e3 (w6.setCell ⟨z, 0, none⟩ (.slice (some ⟨g, 0, none⟩) (k + 1) cap)) := by
 have own : ∀ b, b < B → v.ownBlock ≠ some b := fun b hb h2 => by have := (own_lt h.row h2).1; omega
 have K2 : Keep (fun b => b < B) w2 w6 := ((hk4.mono fun b hb _ => by omega : Keep (fun b => b < B) w2 w4).drew.trans (k5.mono fun b hb _ => by omega)).trans (k6.mono fun b hb _ => own b hb)
 have B6 : Blk w6 z 150 35 (sv v (fun _ => 0) (.slice none 0 0) []) := K2.blk hz h.said
 have hr5 := r5.lt
 refine ⟨B6.cell 0 (by omega), B6.frozen 0, ⟨?_, ?_, ?_, ?_, hpi, ?_⟩⟩
 ·exact (h.keep.trans (K2.mono fun b hb _ => hb.1)).setCell (fun hh => hh.2 rfl) _
 ·refine (B6.set 0 _).congr fun j hj => ?_
  unfold sv
  by_cases c : j = 0
  ·rw [if_pos c, if_pos c]
  ·rw [if_neg c, if_neg c, if_neg c]
 ·exact ownsRow_setCell_other ho (fun e => by simp [Value.ownBlock] at e; have := (own_lt ho (g := g) rfl).1; omega) _
 ·exact (r5.keep k6 h.apart).keep ((Keep.refl (fun b => b ≠ z) w6).setCell (fun hh => hh rfl) _) (by omega)
 ·simp [Value.ownBlock]
  rintro rfl
  rcases hat with hh | hh
  ·exact h.apart hh
  ·omega
set_option maxHeartbeats 2000000 in
set_option maxRecDepth 100000 in
theorem readTree_any (l : List UInt8) (z : Nat) (w : World) (hl : l.length ≤ 1000000) (hz : Blk w z 150 35 (sv (.slice none 0 0) (fun _ => 0) (.slice none 0 0) [])) :
  Calls Tryz.prog 110 #[.pointer (some ⟨z, 0, none⟩), .string (bs l)] w fun e w' => ∃ es n v, e = .returned (.bool (decide (isTree l))) ∧ Blk w' z 150 35 (sv v (fun _ => 0) (.slice none 0 0) []) ∧ Row w' v 34 (ec es) n ∧ (isTree l → IsTree l es n) ∧ Fresh w.heap.size v ∧ Keep (fun b => b ≠ z) w w' := by
 have HN := new_any l w (by omega)
 have ZL := Lib.hid hz.lt
 have HZ := Lib.hid hz
 clear hz
 go_enter Tryz.func110, Tryz.ntmps110
 go_wp2_with fail
 refine HN.mono ?_
 rintro e w1 ⟨r, rfl, hr, hR, hB⟩
 have T0 : Hid (TS w.heap.size z r w l (fun _ => default) 0 (.slice none 0 0) 0 0 w1) :=
  ⟨Keep.all hB, HZ.out.below hB ZL.out, by rw [Nat.zero_mul]; exact World.ownsRow_nil _ _ _ _, hR, PI.zero _ _, fun h => by simp [Value.ownBlock] at h⟩
 have HR := Lib.hid hr
 clear hR hB HN hr HZ
 go_wp2
 go_loopw [6] (fun _ wr => ∃ es k v p e, Hid (TS w.heap.size z r w l es k v p e wr)) (fun _ wr => rdM l.length wr r)
 case atStart => exact ⟨_, _, _, _, _, T0⟩
 case round =>
  obtain ⟨es, k, v, p, e, hT⟩ := hrel
  clear T0
  have HE := end_any hT.out.rd
  by_cases h5 : endOf l.length p e = 5
  ·rw [h5] at HE
   have he : e = 0 ∧ p < l.length := by
    unfold endOf at h5
    split at h5
    ·exact absurd h5 hT.out.pi.five
    ·split at h5
     ·exact ⟨by omega, by assumption⟩
     ·omega
   obtain ⟨rfl, hp⟩ := he
   have HP := Lib.hid hp
   have M0 : Hid (rdM l.length wr r = l.length + 1 - p) := by show _ = _; rw [rdM_of hT.out.rd, if_pos rfl]
   clear h5 hp
   obtain ⟨n1, p1, e1, hn⟩ : ∃ n1 p1 e1, rNum 2 l p 0 = (n1, p1, e1) := ⟨_, _, _, rfl⟩
   obtain ⟨s2, p2, e2, ht⟩ : ∃ s2 p2 e2, rText 32 l p1 e1 = (s2, p2, e2) := ⟨_, _, _, rfl⟩
   obtain ⟨s3, p3, e3, hi⟩ : ∃ s3 p3 e3, rRaw 32 l p2 e2 = (s3, p3, e3) := ⟨_, _, _, rfl⟩
   have hstep := hT.out.pi.step HP.out hn ht hi
   have l1 : p1 ≤ l.length := by have := rNum_le 2 l p 0 hT.out.pi.le; rw [hn] at this; exact this
   have l2 : p2 ≤ l.length := by have := rText_le 32 l p1 e1 l1; rw [ht] at this; exact this
   have C1 : Hid (∀ W, Rd W r l p 0 → Calls Tryz.prog 61 #[.pointer (some ⟨r, 0, none⟩), .int .i64 2] W fun u w' => u = .returned (.int .i64 n1) ∧ Rd w' r l p1 e1 ∧ Keep (fun k => k ≠ r) W w') := fun W h => by
    have := rnum_any 2 h hT.out.pi.le (by omega)
    rw [hn] at this; exact this
   have C2 : Hid (∀ W, Rd W r l p1 e1 → Calls Tryz.prog 68 #[.pointer (some ⟨r, 0, none⟩), .int .i64 32] W fun u w' => u = .returned (.string (bs s2)) ∧ Rd w' r l p2 e2 ∧ Keep (fun k => k ≠ r) W w') := fun W h => by
    have := rtext_any 32 h l1 (by omega)
    rw [ht] at this; exact this
   have C3 : Hid (∀ W, Rd W r l p2 e2 → Calls Tryz.prog 125 #[.pointer (some ⟨r, 0, none⟩)] W fun u w' => u = .returned (.agg (arr 32 (bv (idOf s3)))) ∧ Rd w' r l p3 e3 ∧ Keep (fun k => k ≠ r) W w') := fun W h => by
    have := rid_any h l2 (by omega)
    rw [hi] at this; exact this
   have ST := Lib.hid hstep
   clear hn ht hi hstep l1 l2
   go_upto_region 5 with (first | (go_at_call 62; refine HE.mono ?_; rintro e w2 ⟨rfl, hB2⟩; have T2 := Lib.hid (hT.out.below hB2); clear hB2 hT) | (go_at_call 61; refine (C1.out _ T2.out.rd).mono ?_; rintro e w3 ⟨rfl, R3, K3⟩; have HR3 := Lib.hid R3; have HK3 := Lib.hid K3; clear R3 K3) | (go_at_call 68; refine (C2.out _ HR3.out).mono ?_; rintro e w4 ⟨rfl, R4, K4⟩; have HR4 := Lib.hid R4; have HK4 := Lib.hid (HK3.out.trans K4); clear R4 K4 HR3 HK3))
   have c0 : w4.drew.cell? ⟨z, 0, none⟩ = some v := HK4.out.drew.cell (show z ≠ r by have := ZL.out; have := HR.out; omega) (T2.out.said.cell 0 (by omega))
   have few := T2.out.pi.few
   have HO : Hid (∀ w5, Keep (fun k => k ≠ r) w4.drew w5 → w5.ownsRow w.heap.size 164 34 v k (arr (k * 34) (ec (upE es k ⟨s2, n1, idOf s3⟩))).toList ∧ w.heap.size ≤ w5.heap.size) := fun w5 K5 =>
    ⟨owns_congr (owns_keep T2.out.row (HK4.out.drew.trans K5) fun g hg h => T2.out.apart (h ▸ hg)) (by rw [ec_up]), Nat.le_trans (Nat.le_trans T2.out.keep.size HK4.out.size) K5.size⟩
   have FEW : Hid (k + 1 ≤ 100000) := by show k + 1 ≤ 100000; omega
   clear few
   refine wp_region_noPanic ?_
   refine wp_region_held_drew (S := (fun _ => True)) (by kernel_rfl) trivial (fun hHeld => ?_)
   refine wpAnyH_take (i := 0) (oi := ⟨some 17, .move (.tmp 0), 180, "body.go:44", #[], none⟩) (v := ?_) rfl (by kernel_rfl) (by kernel_rfl) (by kernel_rfl) (fun _ _ _ h => h) (Or.inl ⟨by kernel_rfl, ?_⟩) (by assumption) ?_
   rotate_left 1
   ·(intro wS hSw; (try dsimp only at hSw); go_simp; try with_reducible rfl)
   try simp only [Act.put, tA, tZ, tS]
   refine wpAnyH_take (i := 1) (oi := ⟨some 18, .move (.tmp 0), 180, "body.go:44", #[], none⟩) (v := ?_) rfl (by kernel_rfl) (by kernel_rfl) (by kernel_rfl) (fun _ _ _ h => h) (Or.inl ⟨by kernel_rfl, ?_⟩) (by assumption) ?_
   rotate_left 1
   ·(intro wS hSw; (try dsimp only at hSw); go_simp; try with_reducible rfl)
   try simp only [Act.put, tA, tZ, tS]
   refine wpAnyH_take (i := 2) (oi := ⟨some 19, .nilCheck (.tmp 18), 0, "body.go:44", #[⟨1, .data⟩], none⟩) (v := ?_) rfl (by kernel_rfl) (by kernel_rfl) (by kernel_rfl) (fun _ _ _ h => h) (Or.inl ⟨by kernel_rfl, ?_⟩) (by assumption) ?_
   rotate_left 1
   ·(intro wS hSw; (try dsimp only at hSw); go_simp; try with_reducible rfl)
   try simp only [Act.put, tA, tZ, tS]
   refine wpAnyH_take (i := 3) (oi := ⟨some 20, .fieldAddr 150 (.tmp 19) 0, 0, "body.go:44", #[⟨2, .data⟩], none⟩) (v := ?_) rfl (by kernel_rfl) (by kernel_rfl) (by kernel_rfl) (fun _ _ _ h => h) (Or.inl ⟨by kernel_rfl, ?_⟩) (by assumption) ?_
   rotate_left 1
   ·(intro wS hSw; (try dsimp only at hSw); go_simp; try with_reducible rfl)
   try simp only [Act.put, tA, tZ, tS]
   refine wpAnyH_take (i := 5) (oi := ⟨some 22, .move (.tmp 7), 9, "body.go:44", #[], none⟩) (v := ?_) rfl (by kernel_rfl) (by kernel_rfl) (by kernel_rfl) (fun _ _ _ h => h) (Or.inl ⟨by kernel_rfl, ?_⟩) (by assumption) ?_
   rotate_left 1
   ·(intro wS hSw; (try dsimp only at hSw); go_simp; try with_reducible rfl)
   try simp only [Act.put, tA, tZ, tS]
   refine wpAnyH_take (i := 6) (oi := ⟨some 23, .move (.tmp 6), 3, "body.go:44", #[], none⟩) (v := ?_) rfl (by kernel_rfl) (by kernel_rfl) (by kernel_rfl) (fun _ _ _ h => h) (Or.inl ⟨by kernel_rfl, ?_⟩) (by assumption) ?_
   rotate_left 1
   ·(intro wS hSw; (try dsimp only at hSw); go_simp; try with_reducible rfl)
   try simp only [Act.put, tA, tZ, tS]
   refine wpAnyH_take (i := 7) (oi := ⟨some 24, .move (.tmp 5), 79, "body.go:44", #[], none⟩) (v := ?_) rfl (by kernel_rfl) (by kernel_rfl) (by kernel_rfl) (fun _ _ _ h => h) (Or.inl ⟨by kernel_rfl, ?_⟩) (by assumption) ?_
   rotate_left 1
   ·(intro wS hSw; (try dsimp only at hSw); go_simp; try with_reducible rfl)
   try simp only [Act.put, tA, tZ, tS]
   refine wpAnyH_ready (rs := [4, 8]) (by kernel_rfl) (by simp) ?_
   refine AllReadyH.cons (o := ⟨some 21, .load 130 (.tmp 20), 130, "body.go:44", #[⟨3, .data⟩], none⟩) rfl (fun K hK => ?_) (AllReadyH.cons (o := ⟨some 25, .call { callee := .value (Operand.func 125), args := #[.tmp 24], argTypes := #[79] }, 37, "body.go:44", #[⟨7, .data⟩], none⟩) rfl (fun K hK => ?_) AllReadyH.nil)
   ·skip
    go_simp
    refine hK.out _ _ (trivial) (fun _ => ?_)
    clear hK K
    try simp only [Act.put, tA, tZ, tS]
    refine wpAnyH_ready (rs := [8]) (by kernel_rfl) (by simp) ?_
    refine AllReadyH.cons (o := ⟨some 25, .call { callee := .value (Operand.func 125), args := #[.tmp 24], argTypes := #[79] }, 37, "body.go:44", #[⟨7, .data⟩], none⟩) rfl (fun K hK => ?_) AllReadyH.nil
    go_simp
    refine (C3.out w4.drew HR4.out).mono ?_
    rintro e w5 ⟨rfl, R5, K5⟩
    refine hK.out _ _ (trivial) (fun _ => ?_)
    clear hK K
    try simp only [Act.put, tA, tZ, tS]
    refine wpAnyH_ready (rs := [9]) (by kernel_rfl) (by simp) ?_
    refine AllReadyH.cons (o := ⟨some 26, .build 164 #[(0, .tmp 22), (1, .tmp 23), (2, .tmp 25)], 164, "body.go:44", #[⟨5, .data⟩, ⟨6, .data⟩, ⟨8, .data⟩], none⟩) rfl (fun K hK => ?_) AllReadyH.nil
    refine step_val rfl _ _ (ex_entry (.tmp 22) (.tmp 23) (.tmp 25) rfl s2 n1 (idOf s3) rfl rfl rfl) ?_
    refine hK.out _ _ (trivial) (fun _ => ?_)
    clear hK K
    try simp only [Act.put, tA, tZ, tS]
    refine wpAnyH_ready (rs := [10]) (by kernel_rfl) (by simp) ?_
    refine AllReadyH.cons (o := ⟨some 27, .buildSlice 130 1 #[(0, .tmp 26)], 130, "body.go:44", #[⟨9, .data⟩], none⟩) rfl (fun K hK => ?_) AllReadyH.nil
    refine step_val rfl _ _ (ex_bslice 130 164 (.tmp 26) rfl 34 (ev ⟨s2, n1, idOf s3⟩) rfl tEntries zEntry (by decide) (by decide)) ?_
    refine hK.out _ _ (trivial) (fun _ => ?_)
    clear hK K
    try simp only [Act.put, tA, tZ, tS]
    obtain ⟨g, cap, w6, hap, ho6, k6, hat⟩ := app_own tEntries iEntry (arr_size 34 _) (by decide) (by decide) (arr 34 (ev ⟨s2, n1, idOf s3⟩)) (arr_congr fun j hj => (by rw [ec_at _ _ _ hj, upE_same] : ev ⟨s2, n1, idOf s3⟩ j = ec (upE es k ⟨s2, n1, idOf s3⟩) (k * 34 + j))) (fun j => ev_one _ _) (HO.out w5 K5).1 (HO.out w5 K5).2 FEW.out
    have N := Lib.hid (TS.next ZL.out HR.out T2.out HK4.out K5 R5 ho6 k6 hat ST.out.1)
    have c6 := N.out.1
    have f6 := N.out.2.1
    clear ho6 k6 hat K5 R5
    refine wpAnyH_ready (rs := [11]) (by kernel_rfl) (by simp) ?_
    refine AllReadyH.cons (o := ⟨some 28, .call { callee := .builtin .append, args := #[.tmp 21, .tmp 27], argTypes := #[130, 130] }, 130, "body.go:44", #[⟨4, .data⟩, ⟨10, .data⟩, ⟨8, .chain⟩], none⟩) rfl (fun K hK => ?_) AllReadyH.nil
    refine step_append_run rfl (.tmp 21) (.tmp 27) 130 130 rfl v _ _ w6 rfl rfl hap ?_
    refine hK.out _ _ (trivial) (fun _ => ?_)
    clear hK K
    try simp only [Act.put, tA, tZ, tS]
    clear hap
    refine wpAnyH_take (i := 12) (oi := ⟨some 29, .nilCheck (.tmp 17), 0, "body.go:44", #[⟨0, .data⟩, ⟨0, .phase⟩, ⟨1, .phase⟩, ⟨2, .phase⟩, ⟨3, .phase⟩, ⟨4, .phase⟩, ⟨5, .phase⟩, ⟨6, .phase⟩, ⟨7, .phase⟩, ⟨8, .phase⟩, ⟨9, .phase⟩, ⟨10, .phase⟩, ⟨11, .phase⟩], none⟩) (v := ?_) rfl (by kernel_rfl) (by kernel_rfl) (by kernel_rfl) (fun _ _ _ h => h) (Or.inl ⟨by kernel_rfl, ?_⟩) (by assumption) ?_
    rotate_left 1
    ·(intro wS hSw; (try dsimp only at hSw); go_simp; try with_reducible rfl)
    try simp only [Act.put, tA, tZ, tS]
    refine wpAnyH_take (i := 13) (oi := ⟨some 30, .fieldAddr 150 (.tmp 29) 0, 0, "body.go:44", #[⟨12, .data⟩, ⟨0, .phase⟩, ⟨1, .phase⟩, ⟨2, .phase⟩, ⟨3, .phase⟩, ⟨4, .phase⟩, ⟨5, .phase⟩, ⟨6, .phase⟩, ⟨7, .phase⟩, ⟨8, .phase⟩, ⟨9, .phase⟩, ⟨10, .phase⟩, ⟨11, .phase⟩], none⟩) (v := ?_) rfl (by kernel_rfl) (by kernel_rfl) (by kernel_rfl) (fun _ _ _ h => h) (Or.inl ⟨by kernel_rfl, ?_⟩) (by assumption) ?_
    rotate_left 1
    ·(intro wS hSw; (try dsimp only at hSw); go_simp; try with_reducible rfl)
    try simp only [Act.put, tA, tZ, tS]
    refine wpAnyH_ready (rs := [14]) (by kernel_rfl) (by simp) ?_
    refine AllReadyH.cons (o := ⟨none, .store 130 (.tmp 30) (.tmp 28), 0, "body.go:44", #[⟨13, .data⟩, ⟨11, .data⟩, ⟨11, .chain⟩, ⟨0, .phase⟩, ⟨1, .phase⟩, ⟨2, .phase⟩, ⟨3, .phase⟩, ⟨4, .phase⟩, ⟨5, .phase⟩, ⟨6, .phase⟩, ⟨7, .phase⟩, ⟨8, .phase⟩, ⟨9, .phase⟩, ⟨10, .phase⟩, ⟨11, .phase⟩], none⟩) rfl (fun K hK => ?_) AllReadyH.nil
    go_simp
    refine hK.out _ _ (trivial) (fun _ => ?_)
    clear hK K
    try simp only [Act.put, tA, tZ, tS]
    refine wpAnyH_done (by kernel_rfl) ?_ _
    refine NoPanic.normal ?_
    have F := Lib.hid N.out.2.2
    have M1 : Hid (rdM l.length (w6.setCell ⟨z, 0, none⟩ (.slice (some ⟨g, 0, none⟩) (k + 1) cap)) r < rdM l.length wr r) := by
     show _ < _
     rw [rdM_of N.out.2.2.rd, M0.out]
     have h1 := HP.out
     have h2 := ST.out.2
     split
     ·rename_i h3; have := h2 h3; omega
     ·omega
    clear N c6 f6
    generalize w6.setCell ⟨z, 0, none⟩ (.slice (some ⟨g, 0, none⟩) (k + 1) cap) = w7 at F M1 ⊢
    go_wp2
    go_roundw
    case rel => exact ⟨_, _, _, _, _, F⟩
    case measure => exact M1.out
   ·skip
    go_simp
    refine (C3.out w4.drew HR4.out).mono ?_
    rintro e w5 ⟨rfl, R5, K5⟩
    refine hK.out _ _ (trivial) (fun _ => ?_)
    clear hK K
    try simp only [Act.put, tA, tZ, tS]
    have c5 : w5.cell? ⟨z, 0, none⟩ = some v := K5.cell (show z ≠ r by have := ZL.out; have := HR.out; omega) c0
    refine wpAnyH_ready (rs := [4, 9]) (by kernel_rfl) (by simp) ?_
    refine AllReadyH.cons (o := ⟨some 21, .load 130 (.tmp 20), 130, "body.go:44", #[⟨3, .data⟩], none⟩) rfl (fun K hK => ?_) (AllReadyH.cons (o := ⟨some 26, .build 164 #[(0, .tmp 22), (1, .tmp 23), (2, .tmp 25)], 164, "body.go:44", #[⟨5, .data⟩, ⟨6, .data⟩, ⟨8, .data⟩], none⟩) rfl (fun K hK => ?_) AllReadyH.nil)
    ·skip
     go_simp
     refine hK.out _ _ (trivial) (fun _ => ?_)
     clear hK K
     try simp only [Act.put, tA, tZ, tS]
     refine wpAnyH_ready (rs := [9]) (by kernel_rfl) (by simp) ?_
     refine AllReadyH.cons (o := ⟨some 26, .build 164 #[(0, .tmp 22), (1, .tmp 23), (2, .tmp 25)], 164, "body.go:44", #[⟨5, .data⟩, ⟨6, .data⟩, ⟨8, .data⟩], none⟩) rfl (fun K hK => ?_) AllReadyH.nil
     refine step_val rfl _ _ (ex_entry (.tmp 22) (.tmp 23) (.tmp 25) rfl s2 n1 (idOf s3) rfl rfl rfl) ?_
     refine hK.out _ _ (trivial) (fun _ => ?_)
     clear hK K
     try simp only [Act.put, tA, tZ, tS]
     refine wpAnyH_ready (rs := [10]) (by kernel_rfl) (by simp) ?_
     refine AllReadyH.cons (o := ⟨some 27, .buildSlice 130 1 #[(0, .tmp 26)], 130, "body.go:44", #[⟨9, .data⟩], none⟩) rfl (fun K hK => ?_) AllReadyH.nil
     refine step_val rfl _ _ (ex_bslice 130 164 (.tmp 26) rfl 34 (ev ⟨s2, n1, idOf s3⟩) rfl tEntries zEntry (by decide) (by decide)) ?_
     refine hK.out _ _ (trivial) (fun _ => ?_)
     clear hK K
     try simp only [Act.put, tA, tZ, tS]
     obtain ⟨g, cap, w6, hap, ho6, k6, hat⟩ := app_own tEntries iEntry (arr_size 34 _) (by decide) (by decide) (arr 34 (ev ⟨s2, n1, idOf s3⟩)) (arr_congr fun j hj => (by rw [ec_at _ _ _ hj, upE_same] : ev ⟨s2, n1, idOf s3⟩ j = ec (upE es k ⟨s2, n1, idOf s3⟩) (k * 34 + j))) (fun j => ev_one _ _) (HO.out w5 K5).1 (HO.out w5 K5).2 FEW.out
     have N := Lib.hid (TS.next ZL.out HR.out T2.out HK4.out K5 R5 ho6 k6 hat ST.out.1)
     have c6 := N.out.1
     have f6 := N.out.2.1
     clear ho6 k6 hat K5 R5
     refine wpAnyH_ready (rs := [11]) (by kernel_rfl) (by simp) ?_
     refine AllReadyH.cons (o := ⟨some 28, .call { callee := .builtin .append, args := #[.tmp 21, .tmp 27], argTypes := #[130, 130] }, 130, "body.go:44", #[⟨4, .data⟩, ⟨10, .data⟩, ⟨8, .chain⟩], none⟩) rfl (fun K hK => ?_) AllReadyH.nil
     refine step_append_run rfl (.tmp 21) (.tmp 27) 130 130 rfl v _ _ w6 rfl rfl hap ?_
     refine hK.out _ _ (trivial) (fun _ => ?_)
     clear hK K
     try simp only [Act.put, tA, tZ, tS]
     clear hap
     refine wpAnyH_take (i := 12) (oi := ⟨some 29, .nilCheck (.tmp 17), 0, "body.go:44", #[⟨0, .data⟩, ⟨0, .phase⟩, ⟨1, .phase⟩, ⟨2, .phase⟩, ⟨3, .phase⟩, ⟨4, .phase⟩, ⟨5, .phase⟩, ⟨6, .phase⟩, ⟨7, .phase⟩, ⟨8, .phase⟩, ⟨9, .phase⟩, ⟨10, .phase⟩, ⟨11, .phase⟩], none⟩) (v := ?_) rfl (by kernel_rfl) (by kernel_rfl) (by kernel_rfl) (fun _ _ _ h => h) (Or.inl ⟨by kernel_rfl, ?_⟩) (by assumption) ?_
     rotate_left 1
     ·(intro wS hSw; (try dsimp only at hSw); go_simp; try with_reducible rfl)
     try simp only [Act.put, tA, tZ, tS]
     refine wpAnyH_take (i := 13) (oi := ⟨some 30, .fieldAddr 150 (.tmp 29) 0, 0, "body.go:44", #[⟨12, .data⟩, ⟨0, .phase⟩, ⟨1, .phase⟩, ⟨2, .phase⟩, ⟨3, .phase⟩, ⟨4, .phase⟩, ⟨5, .phase⟩, ⟨6, .phase⟩, ⟨7, .phase⟩, ⟨8, .phase⟩, ⟨9, .phase⟩, ⟨10, .phase⟩, ⟨11, .phase⟩], none⟩) (v := ?_) rfl (by kernel_rfl) (by kernel_rfl) (by kernel_rfl) (fun _ _ _ h => h) (Or.inl ⟨by kernel_rfl, ?_⟩) (by assumption) ?_
     rotate_left 1
     ·(intro wS hSw; (try dsimp only at hSw); go_simp; try with_reducible rfl)
     try simp only [Act.put, tA, tZ, tS]
     refine wpAnyH_ready (rs := [14]) (by kernel_rfl) (by simp) ?_
     refine AllReadyH.cons (o := ⟨none, .store 130 (.tmp 30) (.tmp 28), 0, "body.go:44", #[⟨13, .data⟩, ⟨11, .data⟩, ⟨11, .chain⟩, ⟨0, .phase⟩, ⟨1, .phase⟩, ⟨2, .phase⟩, ⟨3, .phase⟩, ⟨4, .phase⟩, ⟨5, .phase⟩, ⟨6, .phase⟩, ⟨7, .phase⟩, ⟨8, .phase⟩, ⟨9, .phase⟩, ⟨10, .phase⟩, ⟨11, .phase⟩], none⟩) rfl (fun K hK => ?_) AllReadyH.nil
     go_simp
     refine hK.out _ _ (trivial) (fun _ => ?_)
     clear hK K
     try simp only [Act.put, tA, tZ, tS]
     refine wpAnyH_done (by kernel_rfl) ?_ _
     refine NoPanic.normal ?_
     have F := Lib.hid N.out.2.2
     have M1 : Hid (rdM l.length (w6.setCell ⟨z, 0, none⟩ (.slice (some ⟨g, 0, none⟩) (k + 1) cap)) r < rdM l.length wr r) := by
      show _ < _
      rw [rdM_of N.out.2.2.rd, M0.out]
      have h1 := HP.out
      have h2 := ST.out.2
      split
      ·rename_i h3; have := h2 h3; omega
      ·omega
     clear N c6 f6
     generalize w6.setCell ⟨z, 0, none⟩ (.slice (some ⟨g, 0, none⟩) (k + 1) cap) = w7 at F M1 ⊢
     go_wp2
     go_roundw
     case rel => exact ⟨_, _, _, _, _, F⟩
     case measure => exact M1.out
    ·skip
     refine step_val rfl _ _ (ex_entry (.tmp 22) (.tmp 23) (.tmp 25) rfl s2 n1 (idOf s3) rfl rfl rfl) ?_
     refine hK.out _ _ (trivial) (fun _ => ?_)
     clear hK K
     try simp only [Act.put, tA, tZ, tS]
     refine wpAnyH_ready (rs := [4, 10]) (by kernel_rfl) (by simp) ?_
     refine AllReadyH.cons (o := ⟨some 21, .load 130 (.tmp 20), 130, "body.go:44", #[⟨3, .data⟩], none⟩) rfl (fun K hK => ?_) (AllReadyH.cons (o := ⟨some 27, .buildSlice 130 1 #[(0, .tmp 26)], 130, "body.go:44", #[⟨9, .data⟩], none⟩) rfl (fun K hK => ?_) AllReadyH.nil)
     ·skip
      go_simp
      refine hK.out _ _ (trivial) (fun _ => ?_)
      clear hK K
      try simp only [Act.put, tA, tZ, tS]
      refine wpAnyH_ready (rs := [10]) (by kernel_rfl) (by simp) ?_
      refine AllReadyH.cons (o := ⟨some 27, .buildSlice 130 1 #[(0, .tmp 26)], 130, "body.go:44", #[⟨9, .data⟩], none⟩) rfl (fun K hK => ?_) AllReadyH.nil
      refine step_val rfl _ _ (ex_bslice 130 164 (.tmp 26) rfl 34 (ev ⟨s2, n1, idOf s3⟩) rfl tEntries zEntry (by decide) (by decide)) ?_
      refine hK.out _ _ (trivial) (fun _ => ?_)
      clear hK K
      try simp only [Act.put, tA, tZ, tS]
      obtain ⟨g, cap, w6, hap, ho6, k6, hat⟩ := app_own tEntries iEntry (arr_size 34 _) (by decide) (by decide) (arr 34 (ev ⟨s2, n1, idOf s3⟩)) (arr_congr fun j hj => (by rw [ec_at _ _ _ hj, upE_same] : ev ⟨s2, n1, idOf s3⟩ j = ec (upE es k ⟨s2, n1, idOf s3⟩) (k * 34 + j))) (fun j => ev_one _ _) (HO.out w5 K5).1 (HO.out w5 K5).2 FEW.out
      have N := Lib.hid (TS.next ZL.out HR.out T2.out HK4.out K5 R5 ho6 k6 hat ST.out.1)
      have c6 := N.out.1
      have f6 := N.out.2.1
      clear ho6 k6 hat K5 R5
      refine wpAnyH_ready (rs := [11]) (by kernel_rfl) (by simp) ?_
      refine AllReadyH.cons (o := ⟨some 28, .call { callee := .builtin .append, args := #[.tmp 21, .tmp 27], argTypes := #[130, 130] }, 130, "body.go:44", #[⟨4, .data⟩, ⟨10, .data⟩, ⟨8, .chain⟩], none⟩) rfl (fun K hK => ?_) AllReadyH.nil
      refine step_append_run rfl (.tmp 21) (.tmp 27) 130 130 rfl v _ _ w6 rfl rfl hap ?_
      refine hK.out _ _ (trivial) (fun _ => ?_)
      clear hK K
      try simp only [Act.put, tA, tZ, tS]
      clear hap
      refine wpAnyH_take (i := 12) (oi := ⟨some 29, .nilCheck (.tmp 17), 0, "body.go:44", #[⟨0, .data⟩, ⟨0, .phase⟩, ⟨1, .phase⟩, ⟨2, .phase⟩, ⟨3, .phase⟩, ⟨4, .phase⟩, ⟨5, .phase⟩, ⟨6, .phase⟩, ⟨7, .phase⟩, ⟨8, .phase⟩, ⟨9, .phase⟩, ⟨10, .phase⟩, ⟨11, .phase⟩], none⟩) (v := ?_) rfl (by kernel_rfl) (by kernel_rfl) (by kernel_rfl) (fun _ _ _ h => h) (Or.inl ⟨by kernel_rfl, ?_⟩) (by assumption) ?_
      rotate_left 1
      ·(intro wS hSw; (try dsimp only at hSw); go_simp; try with_reducible rfl)
      try simp only [Act.put, tA, tZ, tS]
      refine wpAnyH_take (i := 13) (oi := ⟨some 30, .fieldAddr 150 (.tmp 29) 0, 0, "body.go:44", #[⟨12, .data⟩, ⟨0, .phase⟩, ⟨1, .phase⟩, ⟨2, .phase⟩, ⟨3, .phase⟩, ⟨4, .phase⟩, ⟨5, .phase⟩, ⟨6, .phase⟩, ⟨7, .phase⟩, ⟨8, .phase⟩, ⟨9, .phase⟩, ⟨10, .phase⟩, ⟨11, .phase⟩], none⟩) (v := ?_) rfl (by kernel_rfl) (by kernel_rfl) (by kernel_rfl) (fun _ _ _ h => h) (Or.inl ⟨by kernel_rfl, ?_⟩) (by assumption) ?_
      rotate_left 1
      ·(intro wS hSw; (try dsimp only at hSw); go_simp; try with_reducible rfl)
      try simp only [Act.put, tA, tZ, tS]
      refine wpAnyH_ready (rs := [14]) (by kernel_rfl) (by simp) ?_
      refine AllReadyH.cons (o := ⟨none, .store 130 (.tmp 30) (.tmp 28), 0, "body.go:44", #[⟨13, .data⟩, ⟨11, .data⟩, ⟨11, .chain⟩, ⟨0, .phase⟩, ⟨1, .phase⟩, ⟨2, .phase⟩, ⟨3, .phase⟩, ⟨4, .phase⟩, ⟨5, .phase⟩, ⟨6, .phase⟩, ⟨7, .phase⟩, ⟨8, .phase⟩, ⟨9, .phase⟩, ⟨10, .phase⟩, ⟨11, .phase⟩], none⟩) rfl (fun K hK => ?_) AllReadyH.nil
      go_simp
      refine hK.out _ _ (trivial) (fun _ => ?_)
      clear hK K
      try simp only [Act.put, tA, tZ, tS]
      refine wpAnyH_done (by kernel_rfl) ?_ _
      refine NoPanic.normal ?_
      have F := Lib.hid N.out.2.2
      have M1 : Hid (rdM l.length (w6.setCell ⟨z, 0, none⟩ (.slice (some ⟨g, 0, none⟩) (k + 1) cap)) r < rdM l.length wr r) := by
       show _ < _
       rw [rdM_of N.out.2.2.rd, M0.out]
       have h1 := HP.out
       have h2 := ST.out.2
       split
       ·rename_i h3; have := h2 h3; omega
       ·omega
      clear N c6 f6
      generalize w6.setCell ⟨z, 0, none⟩ (.slice (some ⟨g, 0, none⟩) (k + 1) cap) = w7 at F M1 ⊢
      go_wp2
      go_roundw
      case rel => exact ⟨_, _, _, _, _, F⟩
      case measure => exact M1.out
     ·skip
      refine step_val rfl _ _ (ex_bslice 130 164 (.tmp 26) rfl 34 (ev ⟨s2, n1, idOf s3⟩) rfl tEntries zEntry (by decide) (by decide)) ?_
      refine hK.out _ _ (trivial) (fun _ => ?_)
      clear hK K
      try simp only [Act.put, tA, tZ, tS]
      have c5b : (w5.alloc (.cells (arr 34 (ev ⟨s2, n1, idOf s3⟩)) 164)).cell? ⟨z, 0, none⟩ = some v := by rw [((Below.refl w5.heap.size w5).alloc (Nat.le_refl _) _).cell (by have := block_lt_of_cell c5; exact this)]; exact c5
      refine wpAnyH_ready (rs := [4]) (by kernel_rfl) (by simp) ?_
      refine AllReadyH.cons (o := ⟨some 21, .load 130 (.tmp 20), 130, "body.go:44", #[⟨3, .data⟩], none⟩) rfl (fun K hK => ?_) AllReadyH.nil
      go_simp
      refine hK.out _ _ (trivial) (fun _ => ?_)
      clear hK K
      try simp only [Act.put, tA, tZ, tS]
      obtain ⟨g, cap, w6, hap, ho6, k6, hat⟩ := app_own tEntries iEntry (arr_size 34 _) (by decide) (by decide) (arr 34 (ev ⟨s2, n1, idOf s3⟩)) (arr_congr fun j hj => (by rw [ec_at _ _ _ hj, upE_same] : ev ⟨s2, n1, idOf s3⟩ j = ec (upE es k ⟨s2, n1, idOf s3⟩) (k * 34 + j))) (fun j => ev_one _ _) (HO.out w5 K5).1 (HO.out w5 K5).2 FEW.out
      have N := Lib.hid (TS.next ZL.out HR.out T2.out HK4.out K5 R5 ho6 k6 hat ST.out.1)
      have c6 := N.out.1
      have f6 := N.out.2.1
      clear ho6 k6 hat K5 R5
      refine wpAnyH_ready (rs := [11]) (by kernel_rfl) (by simp) ?_
      refine AllReadyH.cons (o := ⟨some 28, .call { callee := .builtin .append, args := #[.tmp 21, .tmp 27], argTypes := #[130, 130] }, 130, "body.go:44", #[⟨4, .data⟩, ⟨10, .data⟩, ⟨8, .chain⟩], none⟩) rfl (fun K hK => ?_) AllReadyH.nil
      refine step_append_run rfl (.tmp 21) (.tmp 27) 130 130 rfl v _ _ w6 rfl rfl hap ?_
      refine hK.out _ _ (trivial) (fun _ => ?_)
      clear hK K
      try simp only [Act.put, tA, tZ, tS]
      clear hap
      refine wpAnyH_take (i := 12) (oi := ⟨some 29, .nilCheck (.tmp 17), 0, "body.go:44", #[⟨0, .data⟩, ⟨0, .phase⟩, ⟨1, .phase⟩, ⟨2, .phase⟩, ⟨3, .phase⟩, ⟨4, .phase⟩, ⟨5, .phase⟩, ⟨6, .phase⟩, ⟨7, .phase⟩, ⟨8, .phase⟩, ⟨9, .phase⟩, ⟨10, .phase⟩, ⟨11, .phase⟩], none⟩) (v := ?_) rfl (by kernel_rfl) (by kernel_rfl) (by kernel_rfl) (fun _ _ _ h => h) (Or.inl ⟨by kernel_rfl, ?_⟩) (by assumption) ?_
      rotate_left 1
      ·(intro wS hSw; (try dsimp only at hSw); go_simp; try with_reducible rfl)
      try simp only [Act.put, tA, tZ, tS]
      refine wpAnyH_take (i := 13) (oi := ⟨some 30, .fieldAddr 150 (.tmp 29) 0, 0, "body.go:44", #[⟨12, .data⟩, ⟨0, .phase⟩, ⟨1, .phase⟩, ⟨2, .phase⟩, ⟨3, .phase⟩, ⟨4, .phase⟩, ⟨5, .phase⟩, ⟨6, .phase⟩, ⟨7, .phase⟩, ⟨8, .phase⟩, ⟨9, .phase⟩, ⟨10, .phase⟩, ⟨11, .phase⟩], none⟩) (v := ?_) rfl (by kernel_rfl) (by kernel_rfl) (by kernel_rfl) (fun _ _ _ h => h) (Or.inl ⟨by kernel_rfl, ?_⟩) (by assumption) ?_
      rotate_left 1
      ·(intro wS hSw; (try dsimp only at hSw); go_simp; try with_reducible rfl)
      try simp only [Act.put, tA, tZ, tS]
      refine wpAnyH_ready (rs := [14]) (by kernel_rfl) (by simp) ?_
      refine AllReadyH.cons (o := ⟨none, .store 130 (.tmp 30) (.tmp 28), 0, "body.go:44", #[⟨13, .data⟩, ⟨11, .data⟩, ⟨11, .chain⟩, ⟨0, .phase⟩, ⟨1, .phase⟩, ⟨2, .phase⟩, ⟨3, .phase⟩, ⟨4, .phase⟩, ⟨5, .phase⟩, ⟨6, .phase⟩, ⟨7, .phase⟩, ⟨8, .phase⟩, ⟨9, .phase⟩, ⟨10, .phase⟩, ⟨11, .phase⟩], none⟩) rfl (fun K hK => ?_) AllReadyH.nil
      go_simp
      refine hK.out _ _ (trivial) (fun _ => ?_)
      clear hK K
      try simp only [Act.put, tA, tZ, tS]
      refine wpAnyH_done (by kernel_rfl) ?_ _
      refine NoPanic.normal ?_
      have F := Lib.hid N.out.2.2
      have M1 : Hid (rdM l.length (w6.setCell ⟨z, 0, none⟩ (.slice (some ⟨g, 0, none⟩) (k + 1) cap)) r < rdM l.length wr r) := by
       show _ < _
       rw [rdM_of N.out.2.2.rd, M0.out]
       have h1 := HP.out
       have h2 := ST.out.2
       split
       ·rename_i h3; have := h2 h3; omega
       ·omega
      clear N c6 f6
      generalize w6.setCell ⟨z, 0, none⟩ (.slice (some ⟨g, 0, none⟩) (k + 1) cap) = w7 at F M1 ⊢
      go_wp2
      go_roundw
      case rel => exact ⟨_, _, _, _, _, F⟩
      case measure => exact M1.out
  ·have PE := Lib.hid (hT.out.pi.end h5)
   have d5 : (endOf l.length p e == 5) = false := by simpa using h5
   clear h5 HR
   obtain ⟨q, hq⟩ : ∃ q, q = endOf l.length p e := ⟨_, rfl⟩
   have HE2 : Hid (∀ W, TS w.heap.size z r w l es k v p e W → Calls Tryz.prog 62 #[.pointer (some ⟨r, 0, none⟩)] W fun u w' => u = .returned (.int .i64 q) ∧ Below W.heap.size W w') := fun W h => by rw [hq]; exact end_any h.rd
   rw [← hq] at HE d5 PE
   clear hq
   by_cases h0 : q = 0
   ·subst h0
    go_wp2_with fail
    refine HE.mono ?_
    rintro e2 w2 ⟨rfl, hB2⟩
    have T2 := Lib.hid (hT.out.below hB2)
    clear hB2 HE
    go_wp2_with fail
    refine (HE2.out _ T2.out).mono ?_
    rintro e2 w3 ⟨rfl, hB2⟩
    have T3 := Lib.hid (T2.out.below hB2)
    have c0 : w3.cell? ⟨z, 0, none⟩ = some v := T3.out.said.cell 0 (by omega)
    have few : Hid (k ≤ 140737488355328) := by show k ≤ _; have := T3.out.pi.cnt; omega
    have HO := oents_any es v k w3 (owns_row T3.out.row) few.out (fun i hi => by have := T3.out.pi.names i hi; omega)
    clear hB2 HE2 hT T2
    go_wp2_with fail
    refine HO.mono ?_
    rintro e2 w4 ⟨rfl, hB4⟩
    have T4 := Lib.hid (T3.out.below hB4)
    clear hB4 T3 HO few
    have hd : decide (entsOk es k) = decide (isTree l) := decide_eq_decide.2 ⟨fun h => PE.out.1.1 ⟨(by first | trivial | rfl), h⟩, fun h => (PE.out.1.2 h).2⟩
    rw [hd]
    go_wp2
    go_ret
    exact ⟨es, k, v, rfl, T4.out.said, owns_row T4.out.row, fun h => PE.out.2 (by first | trivial | rfl) (PE.out.1.2 h).2, owns_fresh T4.out.row, T4.out.keep.mono fun b hb hl => ⟨hl, hb⟩⟩
   ·have d0 : (q == 0) = false := by simpa using h0
    have hn : decide (isTree l) = false := decide_eq_false fun h => h0 (PE.out.1.2 h).1
    have HN := Lib.hid hn
    clear h0 hn
    go_wp2_with fail
    refine HE.mono ?_
    rintro e2 w2 ⟨rfl, hB2⟩
    have T2 := Lib.hid (hT.out.below hB2)
    clear hB2 HE
    go_wp2_with fail
    refine (HE2.out _ T2.out).mono ?_
    rintro e2 w3 ⟨rfl, hB2⟩
    have T3 := Lib.hid (T2.out.below hB2)
    clear hB2 HE2 hT T2
    go_wp2
    go_ret
    rw [HN.out]
    exact ⟨es, k, v, rfl, T3.out.said, owns_row T3.out.row, fun h => absurd h (of_decide_eq_false HN.out), owns_fresh T3.out.row, T3.out.keep.mono fun b hb hl => ⟨hl, hb⟩⟩
end Go.Proofs.YtnmjcpoobabjgaaGreatDoor
/- Reading a commit's body, plainly; plain regions by hand. -/
namespace Go.Proofs.YtnmjcpoobabjgaaGreatDoor
open Go.RowKit Classical
section
variable {P : Program}
theorem wpList_valG {ops : Array Oper} {rest : List Oper} {o : Oper} {a : Act} {w : World} {Q : Exit → Act → World → Prop} (hw : Region.wanted o (yielded ops a.tmps) = true) {v : Value} {w' : World} (hr : (execOp a.eval o).run P w = .ok (.value v) w')
    (h : wpList P ops Q rest (a.put o.dst v) w') : wpList P ops Q (o :: rest) a w :=
  wpList_step fun K hK => by rw [if_pos hw]; unfold Oper.wp; rw [hr]; exact hK _ _ h
theorem wpList_valS {ops : Array Oper} {rest : List Oper} {o : Oper} {a : Act} {w : World} {Q : Exit → Act → World → Prop} {v : Value} (hw : Region.wanted o (yielded ops a.tmps) = true) (hr : (execOp a.eval o).run P w = .ok (.value v) w)
    (h : wpList P ops Q rest (a.put o.dst v) w) : wpList P ops Q (o :: rest) a w := wpList_valG hw hr h
theorem wpList_unitG {ops : Array Oper} {rest : List Oper} {o : Oper} {a : Act} {w : World} {Q : Exit → Act → World → Prop} (hw : Region.wanted o (yielded ops a.tmps) = true) {w' : World} (hr : (execOp a.eval o).run P w = .ok .skip w')
    (h : wpList P ops Q rest (a.put o.dst undef) w') : wpList P ops Q (o :: rest) a w :=
  wpList_step fun K hK => by rw [if_pos hw]; unfold Oper.wp; rw [hr]; exact hK _ _ h
theorem wpList_skipG {ops : Array Oper} {rest : List Oper} {o : Oper} {a : Act} {w : World} {Q : Exit → Act → World → Prop} (hw : Region.wanted o (yielded ops a.tmps) = false)
    (h : wpList P ops Q rest (a.put o.dst undef) w) : wpList P ops Q (o :: rest) a w :=
  wpList_step fun K hK => by rw [if_neg (by rw [hw]; decide)]; exact hK _ _ h
theorem wpList_callG {ops : Array Oper} {rest : List Oper} {o : Oper} {a : Act} {w : World} {Q : Exit → Act → World → Prop} (hw : Region.wanted o (yielded ops a.tmps) = true)
    (h : ∀ K : Act → World → Prop, (∀ a w, wpList P ops Q rest a w → K a w) → o.wp P a w K Q) : wpList P ops Q (o :: rest) a w :=
  wpList_step fun K hK => by rw [if_pos hw]; exact h K hK
end
/- what holds of the commit read so far: the tree, how many parents are to come, the parents -/
structure CI (l : List UInt8) (t : Nat → UInt8) (n : Nat) (ps : Nat → Nat → UInt8) (k p : Nat) (e : Int) : Prop where
  le : p ≤ l.length
  five : e ≠ 5
  four : n ≤ 4
  sound : e = 0 → l.take p = idL t ++ dg n ++ pb ps k
  full : ∀ c, IsCom l c → e = 0 ∧ same32 t c.tree ∧ n = c.n ∧ p = (idL c.tree ++ dg c.n ++ pb c.par k).length ∧ ∀ i, i < k → same32 (ps i) (c.par i)
def upI (ps : Nat → Nat → UInt8) (k : Nat) (x : Nat → UInt8) (i : Nat) : Nat → UInt8 := if i = k then x else ps i
theorem upI_same (ps : Nat → Nat → UInt8) (k : Nat) (x : Nat → UInt8) : upI ps k x k = x := by unfold upI; rw [if_pos rfl]
theorem upI_old (ps : Nat → Nat → UInt8) (k : Nat) (x : Nat → UInt8) (i : Nat) (h : i < k) : upI ps k x i = ps i := by unfold upI; rw [if_neg (by omega)]
theorem pb_up (ps : Nat → Nat → UInt8) (k : Nat) (x : Nat → UInt8) : pb (upI ps k x) (k + 1) = pb ps k ++ idL x := by
  show pb (upI ps k x) k ++ idL (upI ps k x k) = _
  rw [upI_same, pb_congr (q := ps) fun i hi => by rw [upI_old ps k x i hi]; exact fun _ _ => rfl]
theorem pc_up (ps : Nat → Nat → UInt8) (k : Nat) (x : Nat → UInt8) : arr (k * 32) (pc (upI ps k x)) = arr (k * 32) (pc ps) := arr_congr fun i hi => by
  unfold pc
  rw [upI_old ps k x _ (by omega)]
theorem com_drop {l : List UInt8} {c : Com} (h : IsCom l c) (k : Nat) (hk : k ≤ c.n) : ∃ R, l = idL c.tree ++ dg c.n ++ pb c.par k ++ R ∧ (k = c.n → R = tx c.text) ∧ (k < c.n → ∃ R2, R = idL (c.par k) ++ R2) := by
  obtain ⟨ok, hl⟩ := h
  unfold comB at hl
  by_cases e : k = c.n
  · subst e
    exact ⟨tx c.text, hl, fun _ => rfl, fun h => absurd h (by omega)⟩
  · obtain ⟨R, hR⟩ := pb_split c.par (k + 1) c.n (by omega)
    refine ⟨idL (c.par k) ++ R ++ tx c.text, ?_, fun h => absurd h e, fun _ => ⟨R ++ tx c.text, by simp⟩⟩
    rw [hl, hR]
    show idL c.tree ++ dg c.n ++ (pb c.par k ++ idL (c.par k) ++ R) ++ tx c.text = _
    simp [List.append_assoc]
theorem CI.start {l s0 : List UInt8} {p0 p1 n : Nat} {e0 e1 : Int} (h0 : rRaw 32 l 0 0 = (s0, p0, e0)) (h1 : rNum 4 l p0 e0 = (n, p1, e1)) : CI l (idOf s0) n (fun _ _ => 0) 0 p1 e1 := by
  have l0 : p0 ≤ l.length := by have := rRaw_le 32 l 0 0 (Nat.zero_le _); rw [h0] at this; exact this
  have l1 : p1 ≤ l.length := by have := rNum_le 4 l p0 e0 l0; rw [h1] at this; exact this
  have v0 : e0 ≠ 5 := by have := raw_five 32 l 0 0 (by decide); rw [h0] at this; exact this
  have v1 : e1 ≠ 5 := by have := num_five 4 l p0 e0 v0; rw [h1] at this; exact this
  have m1 : n ≤ 4 := by have := num_most (most := 4) l p0 e0 (by decide) l0; rw [h1] at this; dsimp only at this; omega
  refine ⟨l1, v1, m1, fun he => ?_, fun c hc => ?_⟩
  · subst he
    have he0 : e0 = 0 := by
      by_cases c : e0 = 0
      · exact c
      · rw [num_err c] at h1
        simp only [Prod.mk.injEq] at h1
        exact absurd h1.2.2 c
    obtain ⟨r1, r2, r3, r4, r5⟩ := raw_idL (Nat.zero_le _) h0 he0
    subst he0
    obtain ⟨u1, u2, u3, u4, u5⟩ := num_there l0 h1
    rw [u1, r2, idL_idOf _ r3]
    simp [pb]
  · obtain ⟨R, hl, -, -⟩ := com_drop hc 0 (Nat.zero_le _)
    have n4 := hc.1.1
    have hlen := congrArg List.length hl
    rw [List.length_append, List.length_append, List.length_append, idL_length] at hlen
    have d0 : l.drop 0 = idL c.tree ++ (dg c.n ++ R) := by rw [List.drop_zero, hl]; simp [pb]
    have g0 := raw_read (n := 32) d0 (Nat.zero_le _) (by rw [idL_length]; rfl)
    rw [h0] at g0
    simp only [Prod.mk.injEq] at g0
    obtain ⟨a1, a2, a3⟩ := g0
    subst a3
    have d1 : l.drop p0 = dg c.n ++ R := by
      rw [a2, drop_add, d0]; simp
    have g1 := num_read (most := 4) d1 (by omega) (by omega)
    rw [h1] at g1
    simp only [Prod.mk.injEq] at g1
    obtain ⟨b1, b2, b3⟩ := g1
    refine ⟨b3, fun i hi => by rw [a1, id_get _ i hi], b1, ?_, fun i hi => absurd hi (by omega)⟩
    rw [b2, a2]
    simp [pb]
theorem CI.step {l s3 : List UInt8} {t : Nat → UInt8} {n : Nat} {ps : Nat → Nat → UInt8} {k p p3 : Nat} {e e3 : Int} (h : CI l t n ps k p e) (hk : k < n) (h3 : rRaw 32 l p e = (s3, p3, e3)) : CI l t n (upI ps k (idOf s3)) (k + 1) p3 e3 := by
  have l3 : p3 ≤ l.length := by have := rRaw_le 32 l p e h.le; rw [h3] at this; exact this
  have v3 : e3 ≠ 5 := by have := raw_five 32 l p e h.five; rw [h3] at this; exact this
  refine ⟨l3, v3, h.four, fun he => ?_, fun c hc => ?_⟩
  · obtain ⟨r1, r2, r3, r4, r5⟩ := raw_idL h.le h3 he
    rw [r2, h.sound r1, pb_up, idL_idOf _ r3]
    simp [List.append_assoc]
  · obtain ⟨f0, f1, f2, f3, f4⟩ := h.full c hc
    obtain ⟨R, hl, -, h2⟩ := com_drop hc k (by omega)
    obtain ⟨R2, hR2⟩ := h2 (by omega)
    have hd : l.drop p = idL (c.par k) ++ R2 := by
      rw [hl, f3, List.drop_append_of_le_length (Nat.le_refl _), List.drop_length, List.nil_append, hR2]
    have g := raw_read (n := 32) hd h.le (by rw [idL_length]; rfl)
    rw [f0, g] at h3
    simp only [Prod.mk.injEq] at h3
    obtain ⟨a1, a2, a3⟩ := h3
    refine ⟨a3.symm, f1, f2, ?_, fun i hi => ?_⟩
    · rw [← a2, f3]
      show _ = (idL c.tree ++ dg c.n ++ (pb c.par k ++ idL (c.par k))).length
      simp only [List.length_append]
      omega
    · by_cases cc : i < k
      · rw [upI_old _ _ _ _ cc]; exact f4 i cc
      · rw [show i = k by omega, upI_same]
        intro j hj
        rw [← a1, id_get _ j hj]
def isCom (l : List UInt8) : Prop := ∃ c, IsCom l c
theorem CI.end {l s : List UInt8} {t : Nat → UInt8} {n : Nat} {ps : Nat → Nat → UInt8} {p p3 : Nat} {e e3 : Int} (h : CI l t n ps n p e) (h3 : rText 64 l p e = (s, p3, e3)) :
    (endOf l.length p3 e3 = 0 ∧ comOk ⟨t, n, ps, s⟩ ↔ isCom l) ∧ (endOf l.length p3 e3 = 0 → comOk ⟨t, n, ps, s⟩ → IsCom l ⟨t, n, ps, s⟩) := by
  have l3 : p3 ≤ l.length := by have := rText_le 64 l p e h.le; rw [h3] at this; exact this
  have key : endOf l.length p3 e3 = 0 → comOk ⟨t, n, ps, s⟩ → IsCom l ⟨t, n, ps, s⟩ := by
    intro h0 hok
    unfold endOf at h0
    split at h0
    · rename_i h1; exact absurd h0 h1
    · rename_i h1
      split at h0
      · omega
      · have e0 : e3 = 0 := by omega
        subst e0
        have hp : p3 = l.length := by omega
        have he0 : e = 0 := by
          by_cases c : e = 0
          · exact c
          · rw [text_err c] at h3
            simp only [Prod.mk.injEq] at h3
            exact absurd h3.2.2 c
        subst he0
        obtain ⟨u1, -, -, -, -⟩ := text_there h.le h3
        rw [hp, List.take_length, h.sound rfl] at u1
        exact ⟨hok, u1⟩
  refine ⟨⟨fun ⟨h0, hok⟩ => ⟨_, key h0 hok⟩, ?_⟩, key⟩
  rintro ⟨c, hc⟩
  obtain ⟨f0, f1, f2, f3, f4⟩ := h.full c hc
  obtain ⟨R, hl, h1, -⟩ := com_drop hc n (by omega)
  have hR := h1 f2
  have ht := hc.1.2.1
  have hd : l.drop p = tx c.text ++ [] := by
    rw [hl, f3, List.drop_append_of_le_length (Nat.le_refl _), List.drop_length, List.nil_append, hR, List.append_nil]
  have g := text_read (most := 64) hd h.le (by omega) (by omega)
  rw [f0, g] at h3
  simp only [Prod.mk.injEq] at h3
  obtain ⟨a1, a2, a3⟩ := h3
  have hlen := drop_len2 hd h.le
  rw [List.append_nil] at hlen
  refine ⟨?_, ?_⟩
  · unfold endOf
    rw [if_neg (by omega), if_neg (by omega)]
  · obtain ⟨k1, k2, k3⟩ := hc.1
    refine ⟨by show n ≤ 4; omega, by show s.length ≤ 64; rw [← a1]; exact k2, fun i j hij hj hs => ?_⟩
    have hj2 : j < n := hj
    exact k3 i j hij (by omega) fun x hx => by rw [← f4 i (by omega) x hx, show ps i x = ps j x from hs x hx, f4 j hj2 x hx]
end Go.Proofs.YtnmjcpoobabjgaaGreatDoor
