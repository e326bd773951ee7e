import Derived.Test.YtiajfhoiedkaaaaU0
/- What ObjectKeeps holds on its way. -/
namespace Go.Proofs.Ytiajfhoiedkaaaa
open Go.RowKit Classical
theorem bs0_run (w : World) : (Instr.buildSlice 34 0 #[]).run Try.prog w = .ok (.slice (some ⟨w.heap.size, 0, none⟩) 0 0) (w.alloc (.cells #[] 33)) := by kernel_rfl
theorem ex_bs0 {o : Oper} {a : Act} {w : World} (ho : o.op = .buildSlice 34 0 #[]) : (execOp a.eval o).run Try.prog w = .ok (.value (.slice (some ⟨w.heap.size, 0, none⟩) 0 0)) (w.alloc (.cells #[] 33)) := by
  have hr := bs0_run w
  unfold execOp
  simp only [ho, List.map_toArray, List.map_nil, Sem.run_bind, hr, Result.andThen_ok]
  rfl
def nine (i : Nat) : UInt8 := if i = 0 then 9 else 0
theorem bd_nine (w : World) : (Instr.build 33 #[(0, .int .u8 9)]).run Try.prog w = .ok (.agg (arr 32 (bv nine))) w := by kernel_rfl
theorem ex_nine {o : Oper} {a : Act} {w : World} (ho : o.op = .build 33 #[(0, .const (.int .u8 9))]) : (execOp a.eval o).run Try.prog w = .ok (.value (.agg (arr 32 (bv nine)))) w :=
  ex_build ho (vs := #[(0, .int .u8 9)]) (by simp [Act.eval]) (bd_nine w)
theorem bd_entry0 (w : World) : (Instr.build 51 #[]).run Try.prog w = .ok (.agg (arr 34 (ev zE))) w := by kernel_rfl
theorem cv_par (t : Nat → UInt8) (pv pv' : Value) (s : List UInt8) (j : Nat) : (if j = 32 then pv' else cv t pv s j) = cv t pv' s j := by
  unfold cv
  by_cases h : j = 32
  · rw [if_pos h, if_neg (by omega), if_pos h]
  · rw [if_neg h]; simp only [if_neg h]
/- one answer for one list, for one commit -/
theorem tree_det (es : Nat → Ent) (n : Nat) (hs : ∀ i, i < n → (es i).name.length ≤ 281474976710656) : ∃ k l r, ∀ W v, Row W v 34 (ec es) n → Calls Try.prog 13 #[v] W fun e w' => e = .returned (.tuple #[.agg #[.int .i64 k, .string (bs l)], .int .i64 r]) ∧ Below W.heap.size W w' := by
  by_cases ht : treeOk es n
  · obtain ⟨gs, hp, hg⟩ := ht
    exact ⟨2, tb gs n, 0, fun W v hR => (tree_any es v n W hR hs).mono fun e w' h => ⟨h.1 gs hp hg, h.2.2⟩⟩
  · exact ⟨0, [], 1, fun W v hR => (tree_any es v n W hR hs).mono fun e w' h => ⟨h.2.1 ht, h.2.2⟩⟩
theorem com_det (t : Nat → UInt8) (p : Nat → Nat → UInt8) (n : Nat) (s : List UInt8) (hn : n ≤ 1000) : ∃ k l r, ∀ W v, Row W v 32 (pc p) n → Calls Try.prog 14 #[.agg (arr 34 (cv t v s))] W fun e w' => e = .returned (.tuple #[.agg #[.int .i64 k, .string (bs l)], .int .i64 r]) ∧ Below W.heap.size W w' := by
  by_cases hc : comOk ⟨t, n, p, s⟩
  · exact ⟨3, comB ⟨t, n, p, s⟩, 0, fun W v hR => (commit_any t p n s v W hR (by omega)).mono fun e w' h => ⟨h.1 hc, h.2.2⟩⟩
  · exact ⟨0, [], 1, fun W v hR => (commit_any t p n s v W hR (by omega)).mono fun e w' h => ⟨h.2.1 hc, h.2.2⟩⟩
/- a row of the first entries of the room -/
theorem room_row {w : World} {rm n : Nat} {es : Nat → Ent} (h : Blk w rm 51 ((n + 2) * 34) (ec (er es n))) : Row w (.slice (some ⟨rm, 0, none⟩) n (n + 2)) 34 (ec (er es n)) n :=
  row_of (by omega) fun _ => ⟨rm, 0, rfl, h.lt, fun j hj => h.at0 j (by omega)⟩
theorem room_row2 {w : World} {rm n : Nat} {es : Nat → Ent} (h : Blk w rm 51 ((n + 2) * 34) (ec (er es n))) : Row w (.slice (some ⟨rm, 0, none⟩) n (n + 2)) 34 (ec es) n :=
  (room_row h).congr fun i hi => by unfold ec er; rw [if_pos (by omega)]
theorem room_rest {w : World} {rm n : Nat} {es : Nat → Ent} (h : Blk w rm 51 ((n + 2) * 34) (ec (er es n))) : Row w (.slice (some ⟨rm, n * 34, none⟩) 2 2) 34 (ec fun _ => zE) 2 :=
  row_of (by omega) fun _ => ⟨rm, n * 34, rfl, h.lt, fun j hj => by
    have := h.cell (n * 34 + j) (by omega)
    rw [this]
    unfold ec er
    rw [if_neg (by omega), show (n * 34 + j) % 34 = j % 34 by omega]⟩
theorem obj_same (k : Int) (l : List UInt8) (w : World) : (binOp .eql 24 (.agg (arr 2 (ov k l))) (.agg (arr 2 (ov k l)))).run Try.prog w = .ok (.bool true) w := by
  have h := eqlObj k k l l w
  rw [decide_eq_true ⟨rfl, rfl⟩, ov_arr] at h
  exact h
theorem guardO : Try.prog.eqGuardType Try.prog.depth 24 = false := by kernel_rfl
theorem ex_obj {o : Oper} {a : Act} {w : World} (u : TypeId) (x y : Operand) (ho : o.op = .binOp .eql 24 x y u) (k : Int) (l : List UInt8) (hx : a.eval x = .agg (arr 2 (ov k l))) (hy : a.eval y = .agg (arr 2 (ov k l))) : (execOp a.eval o).run Try.prog w = .ok (.value (.bool true)) w := by
  have hr := obj_same k l w
  have hg := run_eqGuard_agg (P := Try.prog) (w := w) .eql 24 x y (arr 2 (ov k l)) (arr 2 (ov k l)) guardO
  unfold execOp
  simp only [ho, hx, hy, Sem.run_bind, hg, hr, Result.andThen_ok]
  rfl
theorem tE2 : Try.prog.underlying 31 = some (.slice (Try.prog.elem 31)) := by kernel_rfl
theorem szE2 (w : World) : (sizeOf (Try.prog.elem 31)).run Try.prog w = .ok 34 w := by kernel_rfl
theorem ex_sliceH {o : Oper} {a : Act} {w : World} (x y : Operand) (ho : o.op = .slice 31 x none (some y) none) (b n c : Nat) (hx : a.eval x = .slice (some ⟨b, 0, none⟩) n c) (k : Int) (hy : a.eval y = .int .i64 k) (hc : 0 < c) (hk : k = (c : Int)) :
    (execOp a.eval o).run Try.prog w = .ok (.value (.slice (some ⟨b, 0, none⟩) c c)) w := by
  subst hk
  have hr : (Instr.sliceAt 31 (.slice (some ⟨b, 0, none⟩) n c) none (some (.int .i64 (c : Int))) none).run Try.prog w = .ok (.slice (some ⟨b, 0, none⟩) c c) w := by
    rw [run_sliceAt_slice (h := tE2), run_slice_h (ht := tE2) (h0 := by omega) (h2 := by omega), szE2]
    simp [Result.andThen, sliced, Addr.add_mid]
  unfold execOp
  simp only [ho, hx, hy, Option.map_none, Option.map_some, Sem.run_bind, hr, Result.andThen_ok]
  rfl
theorem ex_sliceL {o : Oper} {a : Act} {w : World} (x y : Operand) (ho : o.op = .slice 31 x (some y) none none) (b n : Nat) (hx : a.eval x = .slice (some ⟨b, 0, none⟩) (n + 2) (n + 2)) (hy : a.eval y = .int .i64 (n : Int)) :
    (execOp a.eval o).run Try.prog w = .ok (.value (.slice (some ⟨b, n * 34, none⟩) 2 2)) w := by
  have hr : (Instr.sliceAt 31 (.slice (some ⟨b, 0, none⟩) (n + 2) (n + 2)) (some (.int .i64 (n : Int))) none none).run Try.prog w = .ok (.slice (some ⟨b, n * 34, none⟩) 2 2) w := by
    rw [run_sliceAt_slice (h := tE2), run_slice_l (ht := tE2) (h0 := by omega) (h1 := by omega), szE2]
    simp [Result.andThen, sliced, Addr.add_mid]
  unfold execOp
  simp only [ho, hx, hy, Option.map_none, Option.map_some, Sem.run_bind, hr, Result.andThen_ok]
  rfl
structure Kp (w0 : World) (z rm : Nat) (es : Nat → Ent) (n0 : Nat) (f : Nat → Value) (B : Nat) (v : Value) (n1 : Nat) (q1 : Nat → Nat → UInt8) (zd : Nat) (g : Nat → Value) (w : World) : Prop where
  keep : Below w0.heap.size w0 w
  blk : Blk w z 36 34 f
  room : Blk w rm 51 ((n0 + 2) * 34) (ec (er es n0))
  par : w.ownsRow B 33 32 v n1 (arr (n1 * 32) (pc q1)).toList
  dd : Blk w zd 36 34 g
theorem Kp.step {w0 : World} {z rm : Nat} {es : Nat → Ent} {n0 : Nat} {f : Nat → Value} {B : Nat} {v : Value} {n1 : Nat} {q1 : Nat → Nat → UInt8} {zd : Nat} {g : Nat → Value} {w w' : World} (h : Kp w0 z rm es n0 f B v n1 q1 zd g w) (hb : Below w.heap.size w w') : Kp w0 z rm es n0 f B v n1 q1 zd g w' :=
  ⟨h.keep.trans (hb.mono h.keep.size), h.blk.below hb h.blk.lt, h.room.below hb h.room.lt, owns_all h.par hb, h.dd.below hb h.dd.lt⟩
/- behind the comparisons: the room and the parents are written to -/
structure Kq (w0 : World) (z rm zo1 zo2 : Nat) (n0 n1 : Nat) (ad : Option Addr) (f o1 o2 : Nat → Value) (w : World) : Prop where
  keep : Below w0.heap.size w0 w
  blk : Blk w z 36 34 f
  oa : Blk w zo1 24 2 o1
  ob : Blk w zo2 24 2 o2
  room : ∃ F, Blk w rm 51 ((n0 + 2) * 34) F
  rne : w0.heap.size ≤ rm ∧ rm ≠ z ∧ rm ≠ zo1 ∧ rm ≠ zo2
  par : 0 < n1 → ∃ pr N F, ad = some ⟨pr, 0, none⟩ ∧ n1 * 32 ≤ N ∧ Blk w pr 33 N F ∧ w0.heap.size ≤ pr ∧ pr ≠ z ∧ pr ≠ zo1 ∧ pr ≠ zo2 ∧ pr ≠ rm
theorem Kq.step {w0 : World} {z rm zo1 zo2 : Nat} {n0 n1 : Nat} {ad : Option Addr} {f o1 o2 : Nat → Value} {w w' : World} (h : Kq w0 z rm zo1 zo2 n0 n1 ad f o1 o2 w) (hb : Below w.heap.size w w') : Kq w0 z rm zo1 zo2 n0 n1 ad f o1 o2 w' := by
  obtain ⟨F, hF⟩ := h.room
  refine ⟨h.keep.trans (hb.mono h.keep.size), h.blk.below hb h.blk.lt, h.oa.below hb h.oa.lt, h.ob.below hb h.ob.lt, ⟨F, hF.below hb hF.lt⟩, h.rne, fun h0 => ?_⟩
  obtain ⟨pr, N, F, a, b, c, d⟩ := h.par h0
  exact ⟨pr, N, F, a, b, c.below hb c.lt, d⟩
theorem Kq.putRoom {w0 : World} {z rm zo1 zo2 : Nat} {n0 n1 : Nat} {ad : Option Addr} {f o1 o2 : Nat → Value} {w : World} (h : Kq w0 z rm zo1 zo2 n0 n1 ad f o1 o2 w) (vs : List Value) (o : Nat) : Kq w0 z rm zo1 zo2 n0 n1 ad f o1 o2 (w.setCells rm o vs) := by
  obtain ⟨F, hF⟩ := h.room
  have hk := keep_setCells (b := rm) vs o w
  obtain ⟨r0, r1, r2, r3⟩ := h.rne
  refine ⟨((keepAll h.keep).trans (hk.mono fun b hb _ => by omega)).below (Nat.le_refl _), hk.blk r1.symm h.blk, hk.blk r2.symm h.oa, hk.blk r3.symm h.ob, ⟨_, hF.setCells vs o w F⟩, h.rne, fun h0 => ?_⟩
  obtain ⟨pr, N, F, a, b, c, d⟩ := h.par h0
  exact ⟨pr, N, F, a, b, hk.blk d.2.2.2.2 c, d⟩
theorem Kq.putPar {w0 : World} {z rm zo1 zo2 : Nat} {n0 n1 : Nat} {pr : Nat} {f o1 o2 : Nat → Value} {w : World} (h : Kq w0 z rm zo1 zo2 n0 n1 (some ⟨pr, 0, none⟩) f o1 o2 w) (h1 : 0 < n1) (vs : List Value) (o : Nat) : Kq w0 z rm zo1 zo2 n0 n1 (some ⟨pr, 0, none⟩) f o1 o2 (w.setCells pr o vs) := by
  obtain ⟨F, hF⟩ := h.room
  have hk := keep_setCells (b := pr) vs o w
  obtain ⟨p2, N, G, a, b, c, r0, r1, r2, r3, r4⟩ := h.par h1
  cases a
  refine ⟨((keepAll h.keep).trans (hk.mono fun b hb _ => by omega)).below (Nat.le_refl _), hk.blk r1.symm h.blk, hk.blk r2.symm h.oa, hk.blk r3.symm h.ob, ⟨F, hk.blk r4.symm hF⟩, h.rne, fun h0 => ⟨pr, N, _, rfl, b, c.setCells vs o w G, r0, r1, r2, r3, r4⟩⟩
end Go.Proofs.Ytiajfhoiedkaaaa
