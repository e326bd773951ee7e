import Derived.Test.YtmcaapgcplhhmaaW7
import Derived.Lib.AppendStr
import Derived.Deep.AppendLies
import Derived.OwnWalk
import Derived.Maps.AppendAt
import Derived.Laws.MakeOwn
import Derived.Lib.SlicesDelete
/- Which blocks stay as they are; blocks of which a stretch is written; appends' runs. -/
namespace Go.Proofs.Ytmcaapgcplhhmaa
open Go.RowKit
/- the blocks of which K speaks stay as they are -/
structure Keep (K : Nat → Prop) (w w' : World) : Prop where
  os : w'.os = w.os
  tape : w'.tape = w.tape
  output : w'.output = w.output
  size : w.heap.size ≤ w'.heap.size
  block : ∀ k, K k → k < w.heap.size → w'.heap[k]? = w.heap[k]?
theorem Keep.refl (K : Nat → Prop) (w : World) : Keep K w w := ⟨rfl, rfl, rfl, Nat.le_refl _, fun _ _ _ => rfl⟩
theorem Keep.trans {K : Nat → Prop} {a b c : World} (h : Keep K a b) (k : Keep K b c) : Keep K a c :=
  ⟨k.os.trans h.os, k.tape.trans h.tape, k.output.trans h.output, Nat.le_trans h.size k.size, fun i hi hl => (k.block i hi (Nat.lt_of_lt_of_le hl h.size)).trans (h.block i hi hl)⟩
theorem Keep.mono {K K' : Nat → Prop} {w w' : World} (h : Keep K w w') (hK : ∀ k, K' k → k < w.heap.size → K k) : Keep K' w w' :=
  ⟨h.os, h.tape, h.output, h.size, fun k hk hl => h.block k (hK k hk hl) hl⟩
theorem Keep.alloc {K : Nat → Prop} {a w : World} (h : Keep K a w) (o : Obj) : Keep K a (w.alloc o) :=
  h.trans ⟨rfl, rfl, rfl, by simp, fun k _ hl => Below.heap_alloc _ _ _ hl⟩
theorem Keep.drew {K : Nat → Prop} {a w : World} (h : Keep K a w) : Keep K a w.drew := ⟨h.os, h.tape, h.output, h.size, h.block⟩
theorem Keep.drewN {K : Nat → Prop} {a w : World} (h : Keep K a w) (n : Nat) : Keep K a (w.drewN n) := by
  refine h.trans ⟨rfl, rfl, rfl, Nat.le_refl _, fun _ _ _ => rfl⟩
theorem Keep.setCell {K : Nat → Prop} {a w : World} (h : Keep K a w) {p : Addr} (hp : ¬ K p.block) (u : Value) : Keep K a (w.setCell p u) :=
  h.trans ⟨rfl, rfl, rfl, by simp [World.setCell], fun k hk _ => Below.heap_setCell _ _ _ _ (fun e => hp (e ▸ hk))⟩
theorem Keep.setRow {K : Nat → Prop} {a w : World} (h : Keep K a w) {g : Nat} (hp : ¬ K g) (cs : Array Value) : Keep K a (w.setRow g cs) :=
  h.trans ⟨rfl, rfl, rfl, by simp, fun k hk _ => setRow_other w g k cs (fun e => hp (e ▸ hk))⟩
theorem Keep.grown {K : Nat → Prop} {a w w' : World} {row : Option Nat} (h : Keep K a w) (hg : w.grownBy w' row) (hr : ∀ k, row = some k → ¬ K k) : Keep K a w' :=
  h.trans ⟨hg.os, hg.tape, hg.output, hg.size, fun k hk hl => hg.block k hl (fun e => hr k e.symm hk)⟩
theorem Keep.below {B : Nat} {w w' : World} (h : Keep (· < B) w w') (hB : B ≤ w.heap.size) : Below B w w' :=
  ⟨h.os, h.tape, h.output, h.size, fun k hk => h.block k hk (Nat.lt_of_lt_of_le hk hB)⟩
theorem Keep.of_below {K : Nat → Prop} {B : Nat} {w w' : World} (h : Below B w w') (hK : ∀ k, K k → k < w.heap.size → k < B) : Keep K w w' :=
  ⟨h.os, h.tape, h.output, h.size, fun k hk hl => h.block k (hK k hk hl)⟩
theorem Keep.all {K : Nat → Prop} {w w' : World} (h : Below w.heap.size w w') : Keep K w w' := Keep.of_below h fun _ _ h => h
theorem Keep.at {K : Nat → Prop} {w w' : World} (h : Keep K w w') {k : Nat} {o : Obj} (hk : K k) (ho : w.heap[k]? = some o) : w'.heap[k]? = some o := by
  rw [h.block k hk (lt_of_block ho)]; exact ho
theorem Keep.blk {K : Nat → Prop} {w w' : World} {b E n f} (h : Keep K w w') (hk : K b) (hB : Blk w b E n f) : Blk w' b E n f := h.at hk hB
theorem Keep.cell {K : Nat → Prop} {w w' : World} (h : Keep K w w') {a : Addr} {v : Value} (hk : K a.block) (hc : w.cell? a = some v) : w'.cell? a = some v := by
  rw [World.cell?_of_block (w := w) (h.block a.block hk (block_lt_of_cell hc))]; exact hc
section
variable {P : Program}
/- an append's run as a step of a region that draws -/
theorem step_append_run {ops : Array Oper} {o : Oper} {a : Act} {w : World} {K : Act → World → Prop} {Q : Exit → Act → World → Prop} {E : Prop}
    (hg : o.guard = none) (s x : Operand) (t u : TypeId) (hop : o.op = Op.call { callee := Callee.builtin Builtin.append, args := #[s, x], argTypes := #[t, u] })
    (vs vx v' : Value) (w' : World) (hs : a.eval s = vs) (hx : a.eval x = vx) (hrun : (Builtin.append_ #[t, u] o.type #[vs, vx]).run P w = .ok v' w')
    (hK : K (a.put o.dst v') w') :
    if Region.wanted o (yielded ops a.tmps) = true then Oper.wp P o a w K Q else E := by
  have hw : Region.wanted o (yielded ops a.tmps) = true := by simp [Region.wanted, hg]
  rw [if_pos hw]
  unfold Oper.wp
  simp [execOp, hop, resolve, invoke, builtin, hs, hx, hrun, Result.andThen]
  exact hK
/- the same at the list of a plain region's operations -/
theorem wpList_append_run {ops : Array Oper} {rest : List Oper} {o : Oper} {a : Act} {w : World} {Q : Exit → Act → World → Prop} (hgd : o.guard = none) (s x : Operand) (t u : TypeId)
    (ho : o.op = .call { callee := .builtin .append, args := #[s, x], argTypes := #[t, u] })
    (vs vx v' : Value) (w' : World) (hs : a.eval s = vs) (hx : a.eval x = vx) (hrun : (Builtin.append_ #[t, u] o.type #[vs, vx]).run P w = .ok v' w')
    (h : wpList P ops Q rest (a.put o.dst v') w') : wpList P ops Q (o :: rest) a w := by
  refine wpList_plain hgd fun K hK => ?_
  unfold Oper.wp execOp
  simp only [ho, resolve, invoke, builtin, Sem.run_bind, Sem.run_pure, Result.andThen_ok, List.map_toArray, List.map_cons, List.map_nil, hs, hx, hrun]
  exact hK _ _ h
end

theorem Blk.setCells {E : TypeId} {b n : Nat} : ∀ (vs : List Value) (o : Nat) (w : World) (f : Nat → Value), Blk w b E n f → Blk (w.setCells b o vs) b E n (fun j => if o ≤ j ∧ j < o + vs.length then vs.getD (j - o) undef else f j)
  | [], o, w, f, h => h.congr fun j _ => by rw [if_neg (by simp)]
  | v :: r, o, w, f, h => by
    have h1 := Blk.setCells r (o + 1) _ _ (h.set o v)
    refine Blk.congr h1 fun j _ => ?_
    by_cases c : j = o
    · subst c
      rw [if_neg (by omega), if_pos rfl, if_pos (by simp), Nat.sub_self]
      rfl
    · by_cases c2 : o + 1 ≤ j ∧ j < o + 1 + r.length
      · rw [if_pos c2, if_pos (by simp only [List.length_cons]; omega), show j - o = (j - (o + 1)) + 1 by omega]
        rfl
      · rw [if_neg c2, if_neg c, if_neg (by simp only [List.length_cons]; omega)]
theorem keep_setCells {b : Nat} : ∀ (vs : List Value) (o : Nat) (w : World), Keep (fun k => k ≠ b) w (w.setCells b o vs)
  | [], _, w => Keep.refl _ _
  | v :: r, o, w => ((Keep.refl (fun k => k ≠ b) w).setCell (p := ⟨b, o, none⟩) (fun h => h rfl) v).trans (keep_setCells r (o + 1) _)
end Go.Proofs.Ytmcaapgcplhhmaa
