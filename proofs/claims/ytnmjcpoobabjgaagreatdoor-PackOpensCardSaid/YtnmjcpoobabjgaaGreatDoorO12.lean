import Derived.Test.YtnmjcpoobabjgaaGreatDoorO10m
set_option linter.unusedVariables false
set_option linter.unusedSimpArgs false
/- A commit's body read: the program's walk. -/
namespace Go.Proofs.YtnmjcpoobabjgaaGreatDoor
open Go.RowKit Classical
/- what holds in readCommit: z the block of what is said, r the reader -/
structure CS (B z r : Nat) (w0 : World) (l : List UInt8) (t : Nat → UInt8) (ps : Nat → Nat → UInt8) (k : Nat) (v : Value) (s : List UInt8) (p : Nat) (e : Int) (w : World) : Prop where
 keep : Keep (fun b => b < B ∧ b ≠ z) w0 w
 said : Blk w z 150 35 (sv (.slice none 0 0) t v s)
 row : w.ownsRow B 37 32 v k (arr (k * 32) (pc ps)).toList
 rd : Rd w r l p e
 apart : v.ownBlock ≠ some r
theorem CS.below {B z r : Nat} {w0 : World} {l : List UInt8} {t : Nat → UInt8} {ps : Nat → Nat → UInt8} {k : Nat} {v : Value} {s : List UInt8} {p : Nat} {e : Int} {w w' : World} (h : CS B z r w0 l t ps k v s p e w) (hb : Below w.heap.size w w') : CS B z r w0 l t ps k v s p e w' :=
 ⟨h.keep.trans (Keep.all hb), h.said.below hb h.said.lt, owns_all h.row hb, h.rd.keep (K := fun _ => True) (Keep.all hb) trivial, h.apart⟩
theorem sv_tree (v : Value) (t t' : Nat → UInt8) (pv : Value) (s : List UInt8) (j : Nat) : (if 1 ≤ j ∧ j < 1 + (arr 32 (bv t')).toList.length then (arr 32 (bv t')).toList.getD (j - 1) undef else sv v t pv s j) = sv v t' pv s j := by
 rw [Array.length_toList, arr_size]
 by_cases c : 1 ≤ j ∧ j < 1 + 32
 ·rw [if_pos c]
  unfold sv cv
  rw [if_neg (by omega), if_pos (by omega), List.getD_eq_getElem?_getD, Array.getElem?_toList, arr_get _ _ _ (by omega)]
  rfl
 ·rw [if_neg c]
  unfold sv cv
  by_cases h0 : j = 0
  ·rw [if_pos h0, if_pos h0]
  ·have h1 : ¬ j - 1 < 32 := by omega
   rw [if_neg h0, if_neg h0, if_neg h1, if_neg h1]
theorem sv_par (v : Value) (t : Nat → UInt8) (pv pv' : Value) (s : List UInt8) (j : Nat) : (if j = 33 then pv' else sv v t pv s j) = sv v t pv' s j := by
 by_cases c : j = 33
 ·subst c; rfl
 ·rw [if_neg c]
  unfold sv cv
  by_cases h0 : j = 0
  ·rw [if_pos h0, if_pos h0]
  ·rw [if_neg h0, if_neg h0]
   by_cases h1 : j - 1 < 32
   ·rw [if_pos h1, if_pos h1]
   ·have h2 : ¬ j - 1 = 32 := by omega
    rw [if_neg h1, if_neg h1, if_neg h2, if_neg h2]
theorem sv_text (v : Value) (t : Nat → UInt8) (pv : Value) (s s' : List UInt8) (j : Nat) (hj : j < 35) : (if j = 34 then .string (bs s') else sv v t pv s j) = sv v t pv s' j := by
 by_cases c : j = 34
 ·subst c; rfl
 ·rw [if_neg c]
  unfold sv cv
  by_cases h0 : j = 0
  ·rw [if_pos h0, if_pos h0]
  ·rw [if_neg h0, if_neg h0]
   by_cases h1 : j - 1 < 32
   ·rw [if_pos h1, if_pos h1]
   ·have h2 : j - 1 = 32 := by omega
    rw [if_neg h1, if_neg h1, if_pos h2, if_pos h2]
/- behind a round -/
theorem CS.next {B z r : Nat} {w0 w4 w5 w6 : World} {l : List UInt8} {t : Nat → UInt8} {ps : Nat → Nat → UInt8} {k p p3 g cap : Nat} {v : Value} {s : List UInt8} {e e3 : Int} {x : Nat → UInt8} (hz : z < B) (hr : B ≤ r) (h : CS B z r w0 l t ps k v s p e w4) (k5 : Keep (fun k => k ≠ r) w4.drew w5) (r5 : Rd w5 r l p3 e3)
  (ho : w6.ownsRow B 37 32 (.slice (some ⟨g, 0, none⟩) (k + 1) cap) (k + 1) (arr ((k + 1) * 32) (pc (upI ps k x))).toList) (k6 : Keep (fun k => v.ownBlock ≠ some k) w5 w6) (hat : v.ownBlock = some g ∨ g = w5.heap.size + 1) :
  w6.cell? ⟨z, 33, none⟩ = some v ∧ w6.frozen? ⟨z, 33, none⟩ = false ∧ CS B z r w0 l t (upI ps k x) (k + 1) (.slice (some ⟨g, 0, none⟩) (k + 1) cap) s p3 e3 (w6.setCell ⟨z, 33, none⟩ (.slice (some ⟨g, 0, none⟩) (k + 1) cap)) := by
 have own : ∀ b, b < B → v.ownBlock ≠ some b := fun b hb h2 => by have := (own_lt h.row h2).1; omega
 have K2 : Keep (fun b => b < B) w4 w6 := ((Keep.refl (fun b => b < B) w4).drew.trans (k5.mono fun b hb _ => by omega)).trans (k6.mono fun b hb _ => own b hb)
 have B6 : Blk w6 z 150 35 (sv (.slice none 0 0) t v s) := K2.blk hz h.said
 have hr5 := r5.lt
 refine ⟨B6.cell 33 (by omega), B6.frozen 33, ⟨?_, ?_, ?_, ?_, ?_⟩⟩
 ·exact (h.keep.trans (K2.mono fun b hb _ => hb.1)).setCell (fun hh => hh.2 rfl) _
 ·exact (B6.set 33 _).congr fun j hj => sv_par _ _ _ _ _ _
 ·exact ownsRow_setCell_other ho (fun e => by simp [Value.ownBlock] at e; have := (own_lt ho (g := g) rfl).1; omega) _
 ·exact (r5.keep k6 h.apart).keep ((Keep.refl (fun b => b ≠ z) w6).setCell (fun hh => hh rfl) _) (by omega)
 ·simp [Value.ownBlock]
  rintro rfl
  rcases hat with hh | hh
  ·exact h.apart hh
  ·omega
theorem Blk.setCells {E : TypeId} {b n : Nat} : ∀ (vs : List Value) (o : Nat) (w : World) (f : Nat → Value), Blk w b E n f → Blk (w.setCells b o vs) b E n (fun j => if o ≤ j ∧ j < o + vs.length then vs.getD (j - o) undef else f j)
 | [], o, w, f, h => h.congr fun j _ => by rw [if_neg (by simp)]
 | v :: r, o, w, f, h => by
  have h1 := Blk.setCells r (o + 1) _ _ (h.set o v)
  refine Blk.congr h1 fun j _ => ?_
  by_cases c : j = o
  ·subst c
   rw [if_neg (by omega), if_pos rfl, if_pos (by simp), Nat.sub_self]
   rfl
  ·by_cases c2 : o + 1 ≤ j ∧ j < o + 1 + r.length
   ·rw [if_pos c2, if_pos (by simp only [List.length_cons]; omega), show j - o = (j - (o + 1)) + 1 by omega]
    rfl
   ·rw [if_neg c2, if_neg c, if_neg (by simp only [List.length_cons]; omega)]
theorem keep_setCells {b : Nat} : ∀ (vs : List Value) (o : Nat) (w : World), Keep (fun k => k ≠ b) w (w.setCells b o vs)
 | [], _, w => Keep.refl _ _
 | v :: r, o, w => ((Keep.refl (fun k => k ≠ b) w).setCell (p := ⟨b, o, none⟩) (fun h => h rfl) v).trans (keep_setCells r (o + 1) _)
set_option maxHeartbeats 2000000 in
set_option maxRecDepth 100000 in
theorem readCommit_any (l : List UInt8) (z : Nat) (w : World) (hl : l.length ≤ 1000000) (hz : Blk w z 150 35 (sv (.slice none 0 0) (fun _ => 0) (.slice none 0 0) [])) :
  Calls Tryz.prog 111 #[.pointer (some ⟨z, 0, none⟩), .string (bs l)] w fun e w' => ∃ c v, e = .returned (.bool (decide (isCom l))) ∧ Blk w' z 150 35 (sv (.slice none 0 0) c.tree v c.text) ∧ Row w' v 32 (pc c.par) c.n ∧ (isCom l → IsCom l c) ∧ Fresh w.heap.size v ∧ Keep (fun b => b ≠ z) w w' := by
 have HN := new_any l w (by omega)
 have ZL := Lib.hid hz.lt
 have HZ := Lib.hid hz
 clear hz
 obtain ⟨s0, p0, e0, h0⟩ : ∃ s0 p0 e0, rRaw 32 l 0 0 = (s0, p0, e0) := ⟨_, _, _, rfl⟩
 obtain ⟨n, p1, e1, h1⟩ : ∃ n p1 e1, rNum 4 l p0 e0 = (n, p1, e1) := ⟨_, _, _, rfl⟩
 have l0 : p0 ≤ l.length := by have := rRaw_le 32 l 0 0 (Nat.zero_le _); rw [h0] at this; exact this
 have C0 : Hid (∀ W r, Rd W r l 0 0 → Calls Tryz.prog 125 #[.pointer (some ⟨r, 0, none⟩)] W fun u w' => u = .returned (.agg (arr 32 (bv (idOf s0)))) ∧ Rd w' r l p0 e0 ∧ Keep (fun k => k ≠ r) W w') := fun W r h => by
  have := rid_any h (Nat.zero_le _) (by omega)
  rw [h0] at this; exact this
 have C1 : Hid (∀ W r, Rd W r l p0 e0 → Calls Tryz.prog 61 #[.pointer (some ⟨r, 0, none⟩), .int .i64 4] W fun u w' => u = .returned (.int .i64 n) ∧ Rd w' r l p1 e1 ∧ Keep (fun k => k ≠ r) W w') := fun W r h => by
  have := rnum_any 4 h l0 (by omega)
  rw [h1] at this; exact this
 have I0 := Lib.hid (CI.start h0 h1)
 clear h0 h1 l0
 go_enter Tryz.func111, Tryz.ntmps111
 go_upto_region 2 with (refine HN.mono ?_; rintro e w1 ⟨r, rfl, hr, hR, hB⟩)
 have T0 : Hid (CS w.heap.size z r w l (fun _ => 0) (fun _ _ => 0) 0 (.slice none 0 0) [] 0 0 w1) :=
  ⟨Keep.all hB, HZ.out.below hB ZL.out, by rw [Nat.zero_mul]; exact World.ownsRow_nil _ _ _ _, hR, fun h => by simp [Value.ownBlock] at h⟩
 have HR := Lib.hid hr
 clear hR hB HN hr HZ
 refine wp_region_lit ?_
 iterate 2
  refine wpList_valS (v := ?_) (by kernel_rfl) ?_ ?_
  rotate_left 1
  ·(go_simp; try with_reducible rfl)
  try simp only [Act.put, tA, tZ, tS]
 refine wpList_callG (by kernel_rfl) fun K hK => ?_
 go_simp
 refine (C0.out w1 r T0.out.rd).mono ?_
 rintro e w2 ⟨rfl, R2, K2⟩
 refine hK _ _ ?_
 clear hK K
 try simp only [Act.put, tA, tZ, tS]
 refine wpList_valS (v := ?_) (by kernel_rfl) ?_ ?_
 rotate_left 1
 ·(go_simp; try with_reducible rfl)
 try simp only [Act.put, tA, tZ, tS]
 refine wpList_valG (by kernel_rfl) (ex_field fS1 (.tmp 11) rfl z 0 rfl) ?_
 try simp only [Act.put, tA, tZ, tS]
 refine wpList_valG (by kernel_rfl) (ex_field fC0 (.tmp 12) rfl z 1 rfl) ?_
 try simp only [Act.put, tA, tZ, tS]
 have B2 : Blk w2 z 150 35 (sv (.slice none 0 0) (fun _ => 0) (.slice none 0 0) []) := K2.blk (by have := ZL.out; have := HR.out; omega) T0.out.said
 refine wpList_unitG (by kernel_rfl) (ex_store 37 (.tmp 13) (.tmp 10) rfl z 1 32 (bv (idOf s0)) rfl rfl (B2.there 1 32 (by omega)) sz30 (fun _ _ => rfl)) ?_
 try simp only [Act.put, tA, tZ, tS]
 have T2 : Hid (CS w.heap.size z r w l (idOf s0) (fun _ _ => 0) 0 (.slice none 0 0) [] p0 e0 (w2.setCells z 1 (arr 32 (bv (idOf s0))).toList)) := by
  have KZ := keep_setCells (b := z) (arr 32 (bv (idOf s0))).toList 1 w2
  refine ⟨(T0.out.keep.trans (K2.mono fun b hb _ => by have := HR.out; omega)).trans (KZ.mono fun b hb _ => hb.2), (Blk.setCells (arr 32 (bv (idOf s0))).toList 1 w2 _ B2).congr fun j _ => sv_tree _ _ _ _ _ _, by rw [Nat.zero_mul]; exact World.ownsRow_nil _ _ _ _, R2.keep KZ (by have := ZL.out; have := HR.out; omega), fun h => by simp [Value.ownBlock] at h⟩
 clear T0 R2 K2 B2 C0
 generalize w2.setCells z 1 (arr 32 (bv (idOf s0))).toList = w3 at T2 ⊢
 refine wpList_nil ?_
 go_wp2_with fail
 refine (C1.out _ _ T2.out.rd).mono ?_
 rintro e w4 ⟨rfl, R4, K4⟩
 have T4 : Hid (CS w.heap.size z r w l (idOf s0) (fun _ _ => 0) 0 (.slice none 0 0) [] p1 e1 w4) :=
  ⟨T2.out.keep.trans (K4.mono fun b hb _ => by have := HR.out; omega), K4.blk (by have := ZL.out; have := HR.out; omega) T2.out.said, by rw [Nat.zero_mul]; exact World.ownsRow_nil _ _ _ _, R4, T2.out.apart⟩
 clear T2 R4 K4 C1
 have N4 : Hid (n ≤ 4) := I0.out.four
 go_wp2
 go_loopw [16] (fun i wr => ∃ k ps v p e, k ≤ n ∧ i = .int .i64 (k : Nat) ∧ Hid (CS w.heap.size z r w l (idOf s0) ps k v [] p e wr) ∧ Hid (CI l (idOf s0) n ps k p e)) (fun i _ => n - (intOf i).toNat)
 case atStart => exact ⟨0, _, _, _, _, Nat.zero_le _, rfl, T4, I0⟩
 case round =>
  obtain ⟨k, ps, v, p, e, hk, rfl, hS, hI⟩ := hrel
  clear T4 I0
  by_cases hlt : k < n
  ·obtain ⟨s3, p3, e3, h3⟩ : ∃ s3 p3 e3, rRaw 32 l p e = (s3, p3, e3) := ⟨_, _, _, rfl⟩
   have I2 := Lib.hid (hI.out.step hlt h3)
   have C5 : Hid (∀ W, Rd W r l p e → Calls Tryz.prog 125 #[.pointer (some ⟨r, 0, none⟩)] W fun u w' => u = .returned (.agg (arr 32 (bv (idOf s3)))) ∧ Rd w' r l p3 e3 ∧ Keep (fun k => k ≠ r) W w') := fun W h => by
    have := rid_any h hI.out.le (by omega)
    rw [h3] at this; exact this
   have zk : (0 : Int) ≤ (k : Int) := by omega
   have yk : (k : Int) < (n : Int) := by omega
   have HLT := Lib.hid hlt
   have c0 : wr.drew.cell? ⟨z, 33, none⟩ = some v := hS.out.said.cell 33 (by omega)
   have HO : Hid (∀ w5, Keep (fun k => k ≠ r) wr.drew w5 → w5.ownsRow w.heap.size 37 32 v k (arr (k * 32) (pc (upI ps k (idOf s3)))).toList ∧ w.heap.size ≤ w5.heap.size) := fun w5 K5 =>
    ⟨owns_congr (owns_keep hS.out.row ((Keep.refl _ wr).drew.trans K5) fun g hg h => hS.out.apart (h ▸ hg)) (by rw [pc_up]), Nat.le_trans hS.out.keep.size K5.size⟩
   have FEW : Hid (k + 1 ≤ 100000) := by show k + 1 ≤ 100000; have := N4.out; omega
   clear h3 hlt
   go_upto_region 5 with fail
   refine wp_region_noPanic ?_
   refine wp_region_held_drew (S := (fun _ => True)) (by kernel_rfl) trivial (fun hHeld => ?_)
   refine wpAnyH_take (i := 0) (oi := ⟨some 18, .move (.tmp 0), 180, "body.go:54", #[], none⟩) (v := ?_) rfl (by kernel_rfl) (by kernel_rfl) (by kernel_rfl) (fun _ _ _ h => h) (Or.inl ⟨by kernel_rfl, ?_⟩) (by assumption) ?_
   rotate_left 1
   ·(intro wS hSw; (try dsimp only at hSw); go_simp; try with_reducible rfl)
   try simp only [Act.put, tA, tZ, tS]
   refine wpAnyH_take (i := 1) (oi := ⟨some 19, .move (.tmp 0), 180, "body.go:54", #[], none⟩) (v := ?_) rfl (by kernel_rfl) (by kernel_rfl) (by kernel_rfl) (fun _ _ _ h => h) (Or.inl ⟨by kernel_rfl, ?_⟩) (by assumption) ?_
   rotate_left 1
   ·(intro wS hSw; (try dsimp only at hSw); go_simp; try with_reducible rfl)
   try simp only [Act.put, tA, tZ, tS]
   refine wpAnyH_take (i := 2) (oi := ⟨some 20, .nilCheck (.tmp 19), 0, "body.go:54", #[⟨1, .data⟩], none⟩) (v := ?_) rfl (by kernel_rfl) (by kernel_rfl) (by kernel_rfl) (fun _ _ _ h => h) (Or.inl ⟨by kernel_rfl, ?_⟩) (by assumption) ?_
   rotate_left 1
   ·(intro wS hSw; (try dsimp only at hSw); go_simp; try with_reducible rfl)
   try simp only [Act.put, tA, tZ, tS]
   refine wpAnyH_take (i := 3) (oi := ⟨some 21, .fieldAddr 150 (.tmp 20) 1, 0, "body.go:54", #[⟨2, .data⟩], none⟩) (v := ?_) rfl (by kernel_rfl) (by kernel_rfl) (by kernel_rfl) (fun _ _ _ h => h) (Or.inl ⟨by kernel_rfl, ?_⟩) (by assumption) ?_
   rotate_left 1
   ·(intro wS hSw; (try dsimp only at hSw); go_simp; try with_reducible rfl)
   try simp only [Act.put, tA, tZ, tS]
   refine wpAnyH_take (i := 4) (oi := ⟨some 22, .fieldAddr 134 (.tmp 21) 1, 0, "body.go:54", #[⟨3, .data⟩], none⟩) (v := ?_) rfl (by kernel_rfl) (by kernel_rfl) (by kernel_rfl) (fun _ _ _ h => h) (Or.inl ⟨by kernel_rfl, ?_⟩) (by assumption) ?_
   rotate_left 1
   ·(intro wS hSw; (try dsimp only at hSw); go_simp; try with_reducible rfl)
   try simp only [Act.put, tA, tZ, tS]
   refine wpAnyH_take (i := 6) (oi := ⟨some 24, .move (.tmp 5), 79, "body.go:54", #[], none⟩) (v := ?_) rfl (by kernel_rfl) (by kernel_rfl) (by kernel_rfl) (fun _ _ _ h => h) (Or.inl ⟨by kernel_rfl, ?_⟩) (by assumption) ?_
   rotate_left 1
   ·(intro wS hSw; (try dsimp only at hSw); go_simp; try with_reducible rfl)
   try simp only [Act.put, tA, tZ, tS]
   refine wpAnyH_ready (rs := [5, 7]) (by kernel_rfl) (by simp) ?_
   refine AllReadyH.cons (o := ⟨some 23, .load 30 (.tmp 22), 30, "body.go:54", #[⟨4, .data⟩], none⟩) rfl (fun K hK => ?_) (AllReadyH.cons (o := ⟨some 25, .call { callee := .value (Operand.func 125), args := #[.tmp 24], argTypes := #[79] }, 37, "body.go:54", #[⟨6, .data⟩], none⟩) rfl (fun K hK => ?_) AllReadyH.nil)
   ·skip
    go_simp
    refine hK.out _ _ (trivial) (fun _ => ?_)
    clear hK K
    try simp only [Act.put, tA, tZ, tS]
    refine wpAnyH_ready (rs := [7]) (by kernel_rfl) (by simp) ?_
    refine AllReadyH.cons (o := ⟨some 25, .call { callee := .value (Operand.func 125), args := #[.tmp 24], argTypes := #[79] }, 37, "body.go:54", #[⟨6, .data⟩], none⟩) rfl (fun K hK => ?_) AllReadyH.nil
    go_simp
    refine (C5.out wr.drew hS.out.rd).mono ?_
    rintro e w5 ⟨rfl, R5, K5⟩
    refine hK.out _ _ (trivial) (fun _ => ?_)
    clear hK K
    try simp only [Act.put, tA, tZ, tS]
    refine wpAnyH_ready (rs := [8]) (by kernel_rfl) (by simp) ?_
    refine AllReadyH.cons (o := ⟨some 26, .buildSlice 30 1 #[(0, .tmp 25)], 30, "body.go:54", #[⟨7, .data⟩], none⟩) rfl (fun K hK => ?_) AllReadyH.nil
    refine step_val rfl _ _ (ex_bslice 30 37 (.tmp 25) rfl 32 (bv (idOf s3)) rfl tIds zId (by decide) (by decide)) ?_
    refine hK.out _ _ (trivial) (fun _ => ?_)
    clear hK K
    try simp only [Act.put, tA, tZ, tS]
    obtain ⟨g, cap, w6, hap, ho6, k6, hat⟩ := app_own tIds iId (arr_size 32 _) (by decide) (by decide) (arr 32 (bv (idOf s3))) (arr_congr fun j hj => (by rw [pc_at _ _ _ hj, upI_same] : bv (idOf s3) j = pc (upI ps k (idOf s3)) (k * 32 + j))) (fun j => rfl) (HO.out w5 K5).1 (HO.out w5 K5).2 FEW.out
    have N := Lib.hid (CS.next ZL.out HR.out hS.out K5 R5 ho6 k6 hat)
    have c6 := N.out.1
    have f6 := N.out.2.1
    clear ho6 k6 hat K5 R5
    refine wpAnyH_ready (rs := [9]) (by kernel_rfl) (by simp) ?_
    refine AllReadyH.cons (o := ⟨some 27, .call { callee := .builtin .append, args := #[.tmp 23, .tmp 26], argTypes := #[30, 30] }, 30, "body.go:54", #[⟨5, .data⟩, ⟨8, .data⟩, ⟨7, .chain⟩], none⟩) rfl (fun K hK => ?_) AllReadyH.nil
    refine step_append_run rfl (.tmp 23) (.tmp 26) 30 30 rfl v _ _ w6 rfl rfl hap ?_
    refine hK.out _ _ (trivial) (fun _ => ?_)
    clear hK K
    try simp only [Act.put, tA, tZ, tS]
    clear hap
    refine wpAnyH_take (i := 10) (oi := ⟨some 28, .nilCheck (.tmp 18), 0, "body.go:54", #[⟨0, .data⟩, ⟨0, .phase⟩, ⟨1, .phase⟩, ⟨2, .phase⟩, ⟨3, .phase⟩, ⟨4, .phase⟩, ⟨5, .phase⟩, ⟨6, .phase⟩, ⟨7, .phase⟩, ⟨8, .phase⟩, ⟨9, .phase⟩], none⟩) (v := ?_) rfl (by kernel_rfl) (by kernel_rfl) (by kernel_rfl) (fun _ _ _ h => h) (Or.inl ⟨by kernel_rfl, ?_⟩) (by assumption) ?_
    rotate_left 1
    ·(intro wS hSw; (try dsimp only at hSw); go_simp; try with_reducible rfl)
    try simp only [Act.put, tA, tZ, tS]
    refine wpAnyH_take (i := 11) (oi := ⟨some 29, .fieldAddr 150 (.tmp 28) 1, 0, "body.go:54", #[⟨10, .data⟩, ⟨0, .phase⟩, ⟨1, .phase⟩, ⟨2, .phase⟩, ⟨3, .phase⟩, ⟨4, .phase⟩, ⟨5, .phase⟩, ⟨6, .phase⟩, ⟨7, .phase⟩, ⟨8, .phase⟩, ⟨9, .phase⟩], none⟩) (v := ?_) rfl (by kernel_rfl) (by kernel_rfl) (by kernel_rfl) (fun _ _ _ h => h) (Or.inl ⟨by kernel_rfl, ?_⟩) (by assumption) ?_
    rotate_left 1
    ·(intro wS hSw; (try dsimp only at hSw); go_simp; try with_reducible rfl)
    try simp only [Act.put, tA, tZ, tS]
    refine wpAnyH_take (i := 12) (oi := ⟨some 30, .fieldAddr 134 (.tmp 29) 1, 0, "body.go:54", #[⟨11, .data⟩, ⟨0, .phase⟩, ⟨1, .phase⟩, ⟨2, .phase⟩, ⟨3, .phase⟩, ⟨4, .phase⟩, ⟨5, .phase⟩, ⟨6, .phase⟩, ⟨7, .phase⟩, ⟨8, .phase⟩, ⟨9, .phase⟩], none⟩) (v := ?_) rfl (by kernel_rfl) (by kernel_rfl) (by kernel_rfl) (fun _ _ _ h => h) (Or.inl ⟨by kernel_rfl, ?_⟩) (by assumption) ?_
    rotate_left 1
    ·(intro wS hSw; (try dsimp only at hSw); go_simp; try with_reducible rfl)
    try simp only [Act.put, tA, tZ, tS]
    refine wpAnyH_ready (rs := [13]) (by kernel_rfl) (by simp) ?_
    refine AllReadyH.cons (o := ⟨none, .store 30 (.tmp 30) (.tmp 27), 0, "body.go:54", #[⟨12, .data⟩, ⟨9, .data⟩, ⟨9, .chain⟩, ⟨0, .phase⟩, ⟨1, .phase⟩, ⟨2, .phase⟩, ⟨3, .phase⟩, ⟨4, .phase⟩, ⟨5, .phase⟩, ⟨6, .phase⟩, ⟨7, .phase⟩, ⟨8, .phase⟩, ⟨9, .phase⟩], none⟩) rfl (fun K hK => ?_) AllReadyH.nil
    go_simp
    refine hK.out _ _ (trivial) (fun _ => ?_)
    clear hK K
    try simp only [Act.put, tA, tZ, tS]
    refine wpAnyH_done (by kernel_rfl) ?_ _
    refine NoPanic.normal ?_
    have F := Lib.hid N.out.2.2
    clear N c6 f6
    generalize w6.setCell ⟨z, 33, none⟩ (.slice (some ⟨g, 0, none⟩) (k + 1) cap) = w7 at F ⊢
    have n4 := N4.out
    go_wp2
    go_roundw
    case rel => exact ⟨k + 1, _, _, _, _, HLT.out, by go_num, F, I2⟩
    case measure => simp [intOf]; omega
   ·skip
    go_simp
    refine (C5.out wr.drew hS.out.rd).mono ?_
    rintro e w5 ⟨rfl, R5, K5⟩
    refine hK.out _ _ (trivial) (fun _ => ?_)
    clear hK K
    try simp only [Act.put, tA, tZ, tS]
    have c5 : w5.cell? ⟨z, 33, none⟩ = some v := K5.cell (show z ≠ r by have := ZL.out; have := HR.out; omega) c0
    refine wpAnyH_ready (rs := [5, 8]) (by kernel_rfl) (by simp) ?_
    refine AllReadyH.cons (o := ⟨some 23, .load 30 (.tmp 22), 30, "body.go:54", #[⟨4, .data⟩], none⟩) rfl (fun K hK => ?_) (AllReadyH.cons (o := ⟨some 26, .buildSlice 30 1 #[(0, .tmp 25)], 30, "body.go:54", #[⟨7, .data⟩], none⟩) rfl (fun K hK => ?_) AllReadyH.nil)
    ·skip
     go_simp
     refine hK.out _ _ (trivial) (fun _ => ?_)
     clear hK K
     try simp only [Act.put, tA, tZ, tS]
     refine wpAnyH_ready (rs := [8]) (by kernel_rfl) (by simp) ?_
     refine AllReadyH.cons (o := ⟨some 26, .buildSlice 30 1 #[(0, .tmp 25)], 30, "body.go:54", #[⟨7, .data⟩], none⟩) rfl (fun K hK => ?_) AllReadyH.nil
     refine step_val rfl _ _ (ex_bslice 30 37 (.tmp 25) rfl 32 (bv (idOf s3)) rfl tIds zId (by decide) (by decide)) ?_
     refine hK.out _ _ (trivial) (fun _ => ?_)
     clear hK K
     try simp only [Act.put, tA, tZ, tS]
     obtain ⟨g, cap, w6, hap, ho6, k6, hat⟩ := app_own tIds iId (arr_size 32 _) (by decide) (by decide) (arr 32 (bv (idOf s3))) (arr_congr fun j hj => (by rw [pc_at _ _ _ hj, upI_same] : bv (idOf s3) j = pc (upI ps k (idOf s3)) (k * 32 + j))) (fun j => rfl) (HO.out w5 K5).1 (HO.out w5 K5).2 FEW.out
     have N := Lib.hid (CS.next ZL.out HR.out hS.out K5 R5 ho6 k6 hat)
     have c6 := N.out.1
     have f6 := N.out.2.1
     clear ho6 k6 hat K5 R5
     refine wpAnyH_ready (rs := [9]) (by kernel_rfl) (by simp) ?_
     refine AllReadyH.cons (o := ⟨some 27, .call { callee := .builtin .append, args := #[.tmp 23, .tmp 26], argTypes := #[30, 30] }, 30, "body.go:54", #[⟨5, .data⟩, ⟨8, .data⟩, ⟨7, .chain⟩], none⟩) rfl (fun K hK => ?_) AllReadyH.nil
     refine step_append_run rfl (.tmp 23) (.tmp 26) 30 30 rfl v _ _ w6 rfl rfl hap ?_
     refine hK.out _ _ (trivial) (fun _ => ?_)
     clear hK K
     try simp only [Act.put, tA, tZ, tS]
     clear hap
     refine wpAnyH_take (i := 10) (oi := ⟨some 28, .nilCheck (.tmp 18), 0, "body.go:54", #[⟨0, .data⟩, ⟨0, .phase⟩, ⟨1, .phase⟩, ⟨2, .phase⟩, ⟨3, .phase⟩, ⟨4, .phase⟩, ⟨5, .phase⟩, ⟨6, .phase⟩, ⟨7, .phase⟩, ⟨8, .phase⟩, ⟨9, .phase⟩], none⟩) (v := ?_) rfl (by kernel_rfl) (by kernel_rfl) (by kernel_rfl) (fun _ _ _ h => h) (Or.inl ⟨by kernel_rfl, ?_⟩) (by assumption) ?_
     rotate_left 1
     ·(intro wS hSw; (try dsimp only at hSw); go_simp; try with_reducible rfl)
     try simp only [Act.put, tA, tZ, tS]
     refine wpAnyH_take (i := 11) (oi := ⟨some 29, .fieldAddr 150 (.tmp 28) 1, 0, "body.go:54", #[⟨10, .data⟩, ⟨0, .phase⟩, ⟨1, .phase⟩, ⟨2, .phase⟩, ⟨3, .phase⟩, ⟨4, .phase⟩, ⟨5, .phase⟩, ⟨6, .phase⟩, ⟨7, .phase⟩, ⟨8, .phase⟩, ⟨9, .phase⟩], none⟩) (v := ?_) rfl (by kernel_rfl) (by kernel_rfl) (by kernel_rfl) (fun _ _ _ h => h) (Or.inl ⟨by kernel_rfl, ?_⟩) (by assumption) ?_
     rotate_left 1
     ·(intro wS hSw; (try dsimp only at hSw); go_simp; try with_reducible rfl)
     try simp only [Act.put, tA, tZ, tS]
     refine wpAnyH_take (i := 12) (oi := ⟨some 30, .fieldAddr 134 (.tmp 29) 1, 0, "body.go:54", #[⟨11, .data⟩, ⟨0, .phase⟩, ⟨1, .phase⟩, ⟨2, .phase⟩, ⟨3, .phase⟩, ⟨4, .phase⟩, ⟨5, .phase⟩, ⟨6, .phase⟩, ⟨7, .phase⟩, ⟨8, .phase⟩, ⟨9, .phase⟩], none⟩) (v := ?_) rfl (by kernel_rfl) (by kernel_rfl) (by kernel_rfl) (fun _ _ _ h => h) (Or.inl ⟨by kernel_rfl, ?_⟩) (by assumption) ?_
     rotate_left 1
     ·(intro wS hSw; (try dsimp only at hSw); go_simp; try with_reducible rfl)
     try simp only [Act.put, tA, tZ, tS]
     refine wpAnyH_ready (rs := [13]) (by kernel_rfl) (by simp) ?_
     refine AllReadyH.cons (o := ⟨none, .store 30 (.tmp 30) (.tmp 27), 0, "body.go:54", #[⟨12, .data⟩, ⟨9, .data⟩, ⟨9, .chain⟩, ⟨0, .phase⟩, ⟨1, .phase⟩, ⟨2, .phase⟩, ⟨3, .phase⟩, ⟨4, .phase⟩, ⟨5, .phase⟩, ⟨6, .phase⟩, ⟨7, .phase⟩, ⟨8, .phase⟩, ⟨9, .phase⟩], none⟩) rfl (fun K hK => ?_) AllReadyH.nil
     go_simp
     refine hK.out _ _ (trivial) (fun _ => ?_)
     clear hK K
     try simp only [Act.put, tA, tZ, tS]
     refine wpAnyH_done (by kernel_rfl) ?_ _
     refine NoPanic.normal ?_
     have F := Lib.hid N.out.2.2
     clear N c6 f6
     generalize w6.setCell ⟨z, 33, none⟩ (.slice (some ⟨g, 0, none⟩) (k + 1) cap) = w7 at F ⊢
     have n4 := N4.out
     go_wp2
     go_roundw
     case rel => exact ⟨k + 1, _, _, _, _, HLT.out, by go_num, F, I2⟩
     case measure => simp [intOf]; omega
    ·skip
     refine step_val rfl _ _ (ex_bslice 30 37 (.tmp 25) rfl 32 (bv (idOf s3)) rfl tIds zId (by decide) (by decide)) ?_
     refine hK.out _ _ (trivial) (fun _ => ?_)
     clear hK K
     try simp only [Act.put, tA, tZ, tS]
     have c5b : (w5.alloc (.cells (arr 32 (bv (idOf s3))) 37)).cell? ⟨z, 33, none⟩ = some v := by rw [((Below.refl w5.heap.size w5).alloc (Nat.le_refl _) _).cell (by have := block_lt_of_cell c5; exact this)]; exact c5
     refine wpAnyH_ready (rs := [5]) (by kernel_rfl) (by simp) ?_
     refine AllReadyH.cons (o := ⟨some 23, .load 30 (.tmp 22), 30, "body.go:54", #[⟨4, .data⟩], none⟩) rfl (fun K hK => ?_) AllReadyH.nil
     go_simp
     refine hK.out _ _ (trivial) (fun _ => ?_)
     clear hK K
     try simp only [Act.put, tA, tZ, tS]
     obtain ⟨g, cap, w6, hap, ho6, k6, hat⟩ := app_own tIds iId (arr_size 32 _) (by decide) (by decide) (arr 32 (bv (idOf s3))) (arr_congr fun j hj => (by rw [pc_at _ _ _ hj, upI_same] : bv (idOf s3) j = pc (upI ps k (idOf s3)) (k * 32 + j))) (fun j => rfl) (HO.out w5 K5).1 (HO.out w5 K5).2 FEW.out
     have N := Lib.hid (CS.next ZL.out HR.out hS.out K5 R5 ho6 k6 hat)
     have c6 := N.out.1
     have f6 := N.out.2.1
     clear ho6 k6 hat K5 R5
     refine wpAnyH_ready (rs := [9]) (by kernel_rfl) (by simp) ?_
     refine AllReadyH.cons (o := ⟨some 27, .call { callee := .builtin .append, args := #[.tmp 23, .tmp 26], argTypes := #[30, 30] }, 30, "body.go:54", #[⟨5, .data⟩, ⟨8, .data⟩, ⟨7, .chain⟩], none⟩) rfl (fun K hK => ?_) AllReadyH.nil
     refine step_append_run rfl (.tmp 23) (.tmp 26) 30 30 rfl v _ _ w6 rfl rfl hap ?_
     refine hK.out _ _ (trivial) (fun _ => ?_)
     clear hK K
     try simp only [Act.put, tA, tZ, tS]
     clear hap
     refine wpAnyH_take (i := 10) (oi := ⟨some 28, .nilCheck (.tmp 18), 0, "body.go:54", #[⟨0, .data⟩, ⟨0, .phase⟩, ⟨1, .phase⟩, ⟨2, .phase⟩, ⟨3, .phase⟩, ⟨4, .phase⟩, ⟨5, .phase⟩, ⟨6, .phase⟩, ⟨7, .phase⟩, ⟨8, .phase⟩, ⟨9, .phase⟩], none⟩) (v := ?_) rfl (by kernel_rfl) (by kernel_rfl) (by kernel_rfl) (fun _ _ _ h => h) (Or.inl ⟨by kernel_rfl, ?_⟩) (by assumption) ?_
     rotate_left 1
     ·(intro wS hSw; (try dsimp only at hSw); go_simp; try with_reducible rfl)
     try simp only [Act.put, tA, tZ, tS]
     refine wpAnyH_take (i := 11) (oi := ⟨some 29, .fieldAddr 150 (.tmp 28) 1, 0, "body.go:54", #[⟨10, .data⟩, ⟨0, .phase⟩, ⟨1, .phase⟩, ⟨2, .phase⟩, ⟨3, .phase⟩, ⟨4, .phase⟩, ⟨5, .phase⟩, ⟨6, .phase⟩, ⟨7, .phase⟩, ⟨8, .phase⟩, ⟨9, .phase⟩], none⟩) (v := ?_) rfl (by kernel_rfl) (by kernel_rfl) (by kernel_rfl) (fun _ _ _ h => h) (Or.inl ⟨by kernel_rfl, ?_⟩) (by assumption) ?_
     rotate_left 1
     ·(intro wS hSw; (try dsimp only at hSw); go_simp; try with_reducible rfl)
     try simp only [Act.put, tA, tZ, tS]
     refine wpAnyH_take (i := 12) (oi := ⟨some 30, .fieldAddr 134 (.tmp 29) 1, 0, "body.go:54", #[⟨11, .data⟩, ⟨0, .phase⟩, ⟨1, .phase⟩, ⟨2, .phase⟩, ⟨3, .phase⟩, ⟨4, .phase⟩, ⟨5, .phase⟩, ⟨6, .phase⟩, ⟨7, .phase⟩, ⟨8, .phase⟩, ⟨9, .phase⟩], none⟩) (v := ?_) rfl (by kernel_rfl) (by kernel_rfl) (by kernel_rfl) (fun _ _ _ h => h) (Or.inl ⟨by kernel_rfl, ?_⟩) (by assumption) ?_
     rotate_left 1
     ·(intro wS hSw; (try dsimp only at hSw); go_simp; try with_reducible rfl)
     try simp only [Act.put, tA, tZ, tS]
     refine wpAnyH_ready (rs := [13]) (by kernel_rfl) (by simp) ?_
     refine AllReadyH.cons (o := ⟨none, .store 30 (.tmp 30) (.tmp 27), 0, "body.go:54", #[⟨12, .data⟩, ⟨9, .data⟩, ⟨9, .chain⟩, ⟨0, .phase⟩, ⟨1, .phase⟩, ⟨2, .phase⟩, ⟨3, .phase⟩, ⟨4, .phase⟩, ⟨5, .phase⟩, ⟨6, .phase⟩, ⟨7, .phase⟩, ⟨8, .phase⟩, ⟨9, .phase⟩], none⟩) rfl (fun K hK => ?_) AllReadyH.nil
     go_simp
     refine hK.out _ _ (trivial) (fun _ => ?_)
     clear hK K
     try simp only [Act.put, tA, tZ, tS]
     refine wpAnyH_done (by kernel_rfl) ?_ _
     refine NoPanic.normal ?_
     have F := Lib.hid N.out.2.2
     clear N c6 f6
     generalize w6.setCell ⟨z, 33, none⟩ (.slice (some ⟨g, 0, none⟩) (k + 1) cap) = w7 at F ⊢
     have n4 := N4.out
     go_wp2
     go_roundw
     case rel => exact ⟨k + 1, _, _, _, _, HLT.out, by go_num, F, I2⟩
     case measure => simp [intOf]; omega
  ·have ek : k = n := by omega
   subst ek
   have yk : (k : Int) ≤ (k : Int) := by omega
   obtain ⟨s4, p4, e4, h4⟩ : ∃ s4 p4 e4, rText 64 l p e = (s4, p4, e4) := ⟨_, _, _, rfl⟩
   have C6 : Hid (∀ W, Rd W r l p e → Calls Tryz.prog 68 #[.pointer (some ⟨r, 0, none⟩), .int .i64 64] W fun u w' => u = .returned (.string (bs s4)) ∧ Rd w' r l p4 e4 ∧ Keep (fun k => k ≠ r) W w') := fun W h => by
    have := rtext_any 64 h hI.out.le (by omega)
    rw [h4] at this; exact this
   have CE := Lib.hid (hI.out.end h4)
   obtain ⟨q, hq⟩ : ∃ q, q = endOf l.length p4 e4 := ⟨_, rfl⟩
   have HE2 : Hid (∀ W, Rd W r l p4 e4 → Calls Tryz.prog 62 #[.pointer (some ⟨r, 0, none⟩)] W fun u w' => u = .returned (.int .i64 q) ∧ Below W.heap.size W w') := fun W h => by rw [hq]; exact end_any h
   rw [← hq] at CE
   clear h4 hlt hq hI
   go_wp2_with fail
   refine (C6.out _ hS.out.rd).mono ?_
   rintro e5 w5 ⟨rfl, R5, K5⟩
   have B5 : Blk w5 z 150 35 (sv (.slice none 0 0) (idOf s0) v []) := K5.blk (by have := ZL.out; have := HR.out; omega) hS.out.said
   have c34 : w5.cell? ⟨z, 34, none⟩ = some (.string (bs [])) := B5.cell 34 (by omega)
   have f34 : w5.frozen? ⟨z, 34, none⟩ = false := B5.frozen 34
   have T6 : Hid (CS w.heap.size z r w l (idOf s0) ps k v s4 p4 e4 (w5.setCell ⟨z, 34, none⟩ (.string (bs s4)))) := by
    refine ⟨(hS.out.keep.trans (K5.mono fun b hb _ => by have := HR.out; omega)).setCell (fun hh => hh.2 rfl) _, (B5.set 34 _).congr fun j hj => sv_text _ _ _ _ _ _ hj, ?_, R5.keep ((Keep.refl (fun b => b ≠ z) w5).setCell (fun hh => hh rfl) _) (by have := ZL.out; have := HR.out; omega), hS.out.apart⟩
    have O5 := owns_keep hS.out.row K5 fun g hg h => hS.out.apart (h ▸ hg)
    refine owns_keep O5 ((Keep.refl (fun b => b ≠ z) w5).setCell (fun hh => hh rfl) _) fun g hg h => ?_
    have := (own_lt O5 hg).1
    have := ZL.out
    omega
   clear R5 K5 B5 hS C6
   generalize bs [] = sb0 at c34
   go_upto_region 8 with fail
   clear c34 f34
   generalize w5.setCell ⟨z, 34, none⟩ (.string (bs s4)) = w6 at T6 ⊢
   by_cases h0 : q = 0
   ·subst h0
    have CC := Lib.hid (fun (W : World) (h : Row W v 32 (pc ps) k) => ocom_any (idOf s0) ps k s4 v W h (by have := N4.out; omega))
    have hd : decide (comOk ⟨idOf s0, k, ps, s4⟩) = decide (isCom l) := decide_eq_decide.2 ⟨fun h => CE.out.1.1 ⟨rfl, h⟩, fun h => (CE.out.1.2 h).2⟩
    have HC : Hid (isCom l → IsCom l ⟨idOf s0, k, ps, s4⟩) := fun h => CE.out.2 rfl (CE.out.1.2 h).2
    have HD := Lib.hid hd
    clear hd CE
    refine wp_region_lit ?_
    refine wpList_valS (v := ?_) (by kernel_rfl) ?_ ?_
    rotate_left 1
    ·(go_simp; try with_reducible rfl)
    try simp only [Act.put, tA, tZ, tS]
    refine wpList_callG (by kernel_rfl) fun K hK => ?_
    go_simp
    refine (HE2.out _ T6.out.rd).mono ?_
    rintro e w7 ⟨rfl, hB7⟩
    refine hK _ _ ?_
    clear hK K
    try simp only [Act.put, tA, tZ, tS]
    have T7 := Lib.hid (T6.out.below hB7)
    iterate 4
     refine wpList_valS (v := ?_) (by kernel_rfl) ?_ ?_
     rotate_left 1
     ·(go_simp; try with_reducible rfl)
     try simp only [Act.put, tA, tZ, tS]
    refine wpList_valG (by kernel_rfl) (ex_field fS1 (.tmp 43) rfl z 0 rfl) ?_
    try simp only [Act.put, tA, tZ, tS]
    refine wpList_valG (by kernel_rfl) (ex_load 134 (.tmp 44) rfl z 1 34 (cv (idOf s0) v s4) rfl Tryz.underlying134 rfl szCommit (T7.out.said.at0.part 1 34 _ (by omega) (fun j hj => by unfold sv; rw [if_neg (by omega)]; congr 1; omega))) ?_
    try simp only [Act.put, tA, tZ, tS]
    refine wpList_callG (by kernel_rfl) fun K hK => ?_
    go_simp
    refine (CC.out _ (owns_row T7.out.row)).mono ?_
    rintro e w8 ⟨rfl, hB8⟩
    refine hK _ _ ?_
    clear hK K
    try simp only [Act.put, tA, tZ, tS]
    have T8 := Lib.hid (T7.out.below hB8)
    iterate 2
     refine wpList_valS (v := ?_) (by kernel_rfl) ?_ ?_
     rotate_left 1
     ·(go_simp; try with_reducible rfl)
     try simp only [Act.put, tA, tZ, tS]
    refine wpList_nil ?_
    clear hB7 hB8 T6 T7 CC HE2
    rw [HD.out]
    go_wp2
    go_ret
    exact ⟨⟨idOf s0, k, ps, s4⟩, v, rfl, T8.out.said, owns_row T8.out.row, HC.out, owns_fresh T8.out.row, T8.out.keep.mono fun b hb hl => ⟨hl, hb⟩⟩
   ·have d0 : (q == 0) = false := by simpa using h0
    have HD : Hid (¬ isCom l) := fun h => h0 (CE.out.1.2 h).1
    have HN := Lib.hid (decide_eq_false HD.out)
    clear h0 CE
    go_wp2_with fail
    refine (HE2.out _ T6.out.rd).mono ?_
    rintro e7 w7 ⟨rfl, hB7⟩
    have T7 := Lib.hid (T6.out.below hB7)
    clear hB7 T6 HE2
    go_wp2
    go_ret
    rw [HN.out]
    exact ⟨⟨idOf s0, k, ps, s4⟩, v, rfl, T7.out.said, owns_row T7.out.row, fun h => absurd h HD.out, owns_fresh T7.out.row, T7.out.keep.mono fun b hb hl => ⟨hl, hb⟩⟩
end Go.Proofs.YtnmjcpoobabjgaaGreatDoor
