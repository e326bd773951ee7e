import Derived.Test.YtiajfhoiedkaaaaO2
import Derived.Test.YtiajfhoiedkaaaaPg
import Derived.Deep.MidRow
import Derived.Deep.Cut
/- Values and cells of entries, ids, commits, children; their loads, addresses, buildings. -/
namespace Go.Proofs.Ytiajfhoiedkaaaa
open Go.RowKit
/- n cells from a place on, as a function tells them -/
def At (w : World) (b p n : Nat) (f : Nat → Value) : Prop := ∀ j, j < n → w.cell? ⟨b, p + j, none⟩ = some (f j)
theorem At.range {w : World} {b p n : Nat} {f : Nat → Value} (h : At w b p n f) : w.rangeAt b p (arr n f).toList := by
  intro j v hv
  have hj : j < n := by
    have := (List.getElem?_eq_some_iff.1 hv).1
    rw [Array.length_toList, arr_size] at this
    exact this
  rw [Array.getElem?_toList, arr_get _ _ _ hj] at hv
  cases hv
  exact h j hj
theorem At.lt {w : World} {b p n : Nat} {f : Nat → Value} (h : At w b p n f) (hn : 0 < n) : b < w.heap.size := block_lt_of_cell (h 0 hn)
theorem At.keep {K : Nat → Prop} {w w' : World} {b p n : Nat} {f : Nat → Value} (h : At w b p n f) (hk : Keep K w w') (hb : K b) : At w' b p n f := fun j hj => hk.cell hb (h j hj)
theorem At.below {B : Nat} {w w' : World} {b p n : Nat} {f : Nat → Value} (h : At w b p n f) (hb : Below B w w') (hl : b < B) : At w' b p n f := fun j hj => by rw [hb.cell hl]; exact h j hj
theorem At.part {w : World} {b p n : Nat} {f : Nat → Value} (h : At w b p n f) (q m : Nat) (g : Nat → Value) (hm : q + m ≤ n) (hg : ∀ j, j < m → f (q + j) = g j) : At w b (p + q) m g := fun j hj => by
  rw [Nat.add_assoc, h (q + j) (by omega), hg j hj]
theorem Blk.at0 {w : World} {b E n f} (h : Blk w b E n f) : At w b 0 n f := fun j hj => by rw [Nat.zero_add]; exact h.cell j hj
section
variable {P : Program}
theorem wpList_val {ops : Array Oper} {rest : List Oper} {o : Oper} {a : Act} {w : World} {Q : Exit → Act → World → Prop} (hg : o.guard = none) (v : Value) (w' : World) (hr : (execOp a.eval o).run P w = .ok (.value v) w')
    (h : wpList P ops Q rest (a.put o.dst v) w') : wpList P ops Q (o :: rest) a w :=
  wpList_plain hg fun K hK => by unfold Oper.wp; rw [hr]; exact hK _ _ h
theorem wpList_unit {ops : Array Oper} {rest : List Oper} {o : Oper} {a : Act} {w : World} {Q : Exit → Act → World → Prop} (hg : o.guard = none) (w' : World) (hr : (execOp a.eval o).run P w = .ok .skip w')
    (h : wpList P ops Q rest (a.put o.dst undef) w') : wpList P ops Q (o :: rest) a w :=
  wpList_plain hg fun K hK => by unfold Oper.wp; rw [hr]; exact hK _ _ h
/- the same as steps of a region that draws -/
theorem step_val {ops : Array Oper} {o : Oper} {a : Act} {w : World} {K : Act → World → Prop} {Q : Exit → Act → World → Prop} {E : Prop} (hg : o.guard = none) (v : Value) (w' : World) (hr : (execOp a.eval o).run P w = .ok (.value v) w')
    (hK : K (a.put o.dst v) w') : if Region.wanted o (yielded ops a.tmps) = true then Oper.wp P o a w K Q else E := by
  have hw : Region.wanted o (yielded ops a.tmps) = true := by simp [Region.wanted, hg]
  rw [if_pos hw]
  unfold Oper.wp
  rw [hr]
  exact hK
theorem ex_load {o : Oper} {a : Act} {w : World} (ty : TypeId) (x : Operand) (ho : o.op = .load ty x) (b p n : Nat) (f : Nat → Value) (hx : a.eval x = .pointer (some ⟨b, p, none⟩)) {d : TypeDesc}
    (hu : P.underlying ty = some d) (hd : d.isRow = true) (hi : (P.info? ty).map (·.size) = some n) (hc : At w b p n f) : (execOp a.eval o).run P w = .ok (.value (.agg (arr n f))) w := by
  have hr := run_loadAt_mid w b p ty (arr n f).toList d hc.range hu hd (by rw [Array.length_toList, arr_size]; exact hi)
  rw [Array.toArray_toList] at hr
  unfold execOp
  simp only [ho, hx, Sem.run_bind, hr, Result.andThen_ok]
  rfl
/- field k of a struct lies q cells behind its beginning -/
def HasField (P : Program) (ty : TypeId) (k q : Nat) : Prop := ∃ fs f s, P.underlying ty = some (.struct fs) ∧ fs[k]? = some f ∧ f.offset = q ∧ (P.info? f.type).map (·.size) = some (s + 1)
theorem ex_field {o : Oper} {a : Act} {w : World} {ty : TypeId} {k q : Nat} (hF : HasField P ty k q) (x : Operand) (ho : o.op = .fieldAddr ty x k) (b p : Nat) (hx : a.eval x = .pointer (some ⟨b, p, none⟩)) :
    (execOp a.eval o).run P w = .ok (.value (.pointer (some ⟨b, p + q, none⟩))) w := by
  obtain ⟨fs, f, s, hu, hf, rfl, hs⟩ := hF
  cases hq : P.info? f.type with
  | none => rw [hq] at hs; simp at hs
  | some i =>
    have h2 : i.size = s + 1 := by rw [hq] at hs; simpa using hs
    unfold execOp
    simp [ho, hx, Instr.fieldAt, run_underlying hu, hf, Instr.sureAddr, fieldPlace, Addr.add_mid, sizeOf, typeInfo, hq, h2]
theorem ex_index {o : Oper} {a : Act} {w : World} (ty e : TypeId) (x y : Operand) (ho : o.op = .indexAddr ty x y) (b p k len cap m : Nat) (hx : a.eval x = .slice (some ⟨b, p, none⟩) len cap) (hy : a.eval y = .int .i64 k)
    (hu : P.underlying ty = some (.slice e)) (hi : (P.info? e).map (·.size) = some m) (hk : k < len) : (execOp a.eval o).run P w = .ok (.value (.pointer (some ⟨b, p + k * m, none⟩))) w := by
  cases hq : P.info? e with
  | none => rw [hq] at hi; simp at hi
  | some i =>
    have hs : i.size = m := by rw [hq] at hi; simpa using hi
    have hk2 : (k : Int) < (len : Int) := by omega
    have h3 : (Instr.indexAt ty (.slice (some ⟨b, p, none⟩) len cap) (.int .i64 k)).run P w = .ok (.pointer (some ⟨b, p + k * m, none⟩)) w := by
      simp [Instr.indexAt, run_underlying hu, sizeOf, typeInfo, hq, hs, asIntOf, hk2, Addr.add_mid]
      intro h
      omega
    unfold execOp
    simp only [ho, hx, hy, Sem.run_bind, h3, Result.andThen_ok]
    rfl
theorem ex_store {o : Oper} {a : Act} {w : World} (ty : TypeId) (x y : Operand) (ho : o.op = .store ty x y) (b p n : Nat) (f : Nat → Value) (hx : a.eval x = .pointer (some ⟨b, p, none⟩)) (hy : a.eval y = .agg (arr n f))
    (ht : w.there b p n) (hi : (P.info? ty).map (·.size) = some n) (h1 : ∀ i, i < n → (f i).oneCell' = true) : (execOp a.eval o).run P w = .ok .skip (w.setCells b p (arr n f).toList) := by
  have hr := run_storeAt_mid (P := P) w b p ty (arr n f) (by rw [arr_size]; exact ht) (by rw [arr_size]; exact hi) (Array.all_eq_true_iff_forall_mem.2 (fun v hv => by
      unfold arr at hv
      rw [Array.mem_ofFn] at hv
      obtain ⟨i, rfl⟩ := hv
      exact h1 i i.isLt))
  unfold execOp
  simp only [ho, hx, hy, Sem.run_bind, hr, Result.andThen_ok]
  rfl
theorem ex_move {o : Oper} {a : Act} {w : World} (x : Operand) (ho : o.op = .move x) : (execOp a.eval o).run P w = .ok (.value (a.eval x)) w := by
  unfold execOp
  simp only [ho]
  rfl
theorem ex_assign {o : Oper} {a : Act} {w : World} (x : Operand) (ho : o.op = .assign x) : (execOp a.eval o).run P w = .ok (.value (a.eval x)) w := by
  unfold execOp
  simp only [ho]
  rfl
/- a slice of one element of m cells -/
theorem fill_one (m : Nat) (hm : 0 < m) (Z : Array Value) (f : Nat → Value) : Instr.fill (fun i => some (i * m, m)) (Array.map (fun x => Z[x % Z.size]!) (Array.range (1 * m))) [(0, .agg (arr m f))] = some (arr m f) := by
  have key : ∀ (l : List Value) (o : Nat) (cs : Array Value), o + l.length ≤ cs.size → ∀ i, ((l.zipIdx o).foldl (fun cs x => cs.setIfInBounds (0 + x.2) x.1) cs)[i]? = if o ≤ i ∧ i < o + l.length then l[i - o]? else cs[i]? := by
    intro l
    induction l with
    | nil => intro o cs _ i; rw [if_neg (by simp)]; rfl
    | cons v r ih =>
      intro o cs ho i
      rw [List.zipIdx_cons, List.foldl_cons, ih (o + 1) _ (by simp at ho ⊢; omega)]
      rw [List.length_cons] at ho ⊢
      by_cases c : i = o
      · subst c
        rw [if_neg (by omega), if_pos (by omega), Nat.sub_self]
        rw [Nat.zero_add, Array.getElem?_setIfInBounds_self_of_lt (by omega)]
        rfl
      · by_cases c2 : o + 1 ≤ i ∧ i < o + 1 + r.length
        · rw [if_pos c2, if_pos (by omega), show i - o = (i - (o + 1)) + 1 by omega]; rfl
        · rw [if_neg c2, if_neg (by omega), Array.getElem?_setIfInBounds, if_neg (by simp; omega)]
  have hs : (Array.map (fun x => Z[x % Z.size]!) (Array.range (1 * m))).size = m := by simp
  unfold Instr.fill
  simp only [Nat.zero_mul, Value.cells, arr_size, hs, Nat.zero_add]
  rw [if_neg (by simp)]
  unfold Instr.fill
  congr 1
  apply Array.ext_getElem?
  intro i
  rw [← Array.foldl_toList, Array.toList_zipIdx]
  have := key (arr m f).toList 0 (Array.map (fun x => Z[x % Z.size]!) (Array.range (1 * m))) (by rw [hs, Array.length_toList, arr_size]; omega) i
  simp only [Nat.zero_add] at this
  rw [this, Array.length_toList, arr_size]
  by_cases hi : i < m
  · rw [if_pos ⟨by omega, by omega⟩, Nat.sub_zero, Array.getElem?_toList]
  · rw [if_neg (by omega), Array.getElem?_eq_none (by rw [hs]; omega), Array.getElem?_eq_none (by rw [arr_size]; omega)]
theorem run_bslice (w : World) (t e : TypeId) (m : Nat) (f : Nat → Value) (z : Value) (ht : P.underlying t = some (.slice e)) (hi : (P.info? e).map (fun i => (i.zero, i.size)) = some (some z, m)) (hm : 0 < m) (hm2 : m < 1000) :
    (Instr.buildSlice t 1 #[(0, .agg (arr m f))]).run P w = .ok (.slice (some ⟨w.heap.size, 0, none⟩) 1 1) (w.alloc (.cells (arr m f) e)) := by
  have hf := fill_one m hm z.cells f
  have hmm : ¬ (16777216 < m) := by omega
  have hm0 : ¬ (m = 0) := by omega
  cases hq : P.info? e with
  | none => rw [hq] at hi; simp at hi
  | some i =>
    rw [hq] at hi
    simp only [Option.map_some, Option.some.injEq, Prod.mk.injEq] at hi
    obtain ⟨h1, h2⟩ := hi
    simp only [Nat.one_mul] at hf
    simp [Instr.buildSlice, run_underlying ht, sizeOf, typeInfo, hq, h2, zeroValue, h1, newRow, hmm, hm0]
    simp [hf]
theorem ex_bslice {o : Oper} {a : Act} {w : World} (t e : TypeId) (x : Operand) (ho : o.op = .buildSlice t 1 #[(0, x)]) (m : Nat) (f : Nat → Value) (hx : a.eval x = .agg (arr m f)) {z : Value} (ht : P.underlying t = some (.slice e)) (hi : (P.info? e).map (fun i => (i.zero, i.size)) = some (some z, m)) (hm : 0 < m) (hm2 : m < 1000) :
    (execOp a.eval o).run P w = .ok (.value (.slice (some ⟨w.heap.size, 0, none⟩) 1 1)) (w.alloc (.cells (arr m f) e)) := by
  have hr := run_bslice (P := P) w t e m f z ht hi hm hm2
  unfold execOp
  simp only [ho, List.map_toArray, List.map_cons, List.map_nil, hx, Sem.run_bind, hr, Result.andThen_ok]
  rfl
end
/- cells of entries, commits, bodies, children -/
def ev (e : Ent) (i : Nat) : Value := if i = 0 then .string (bs e.name) else if i = 1 then .int .i64 e.kind else cb (e.id (i - 2))
def cv (t : Nat → UInt8) (p : Value) (s : List UInt8) (i : Nat) : Value := if i < 32 then cb (t i) else if i = 32 then p else .string (bs s)
def sv (v : Value) (t : Nat → UInt8) (p : Value) (s : List UInt8) (i : Nat) : Value := if i = 0 then v else cv t p s (i - 1)
def hv (f : Nat → UInt8) (k : Int) (i : Nat) : Value := if i < 32 then cb (f i) else .int .i64 k
theorem ev_id (e : Ent) (j : Nat) : ev e (2 + j) = bv e.id j := by unfold ev; rw [if_neg (by omega), if_neg (by omega), show 2 + j - 2 = j by omega]; rfl
theorem ev_one (e : Ent) (i : Nat) : (ev e i).oneCell' = true := by unfold ev; split; rfl; split <;> rfl
theorem hv_one (f : Nat → UInt8) (k : Int) (i : Nat) : (hv f k i).oneCell' = true := by unfold hv; split <;> rfl
theorem bv_one (f : Nat → UInt8) (i : Nat) : (bv f i).oneCell' = true := rfl
theorem cv_one (t : Nat → UInt8) (p : Value) (hp : p.oneCell' = true) (s : List UInt8) (i : Nat) : (cv t p s i).oneCell' = true := by unfold cv; split; rfl; split; exact hp; rfl
theorem sv_one (v : Value) (hv : v.oneCell' = true) (t : Nat → UInt8) (p : Value) (hp : p.oneCell' = true) (s : List UInt8) (i : Nat) : (sv v t p s i).oneCell' = true := by unfold sv; split; exact hv; exact cv_one t p hp s _
/- types -/
theorem fE0 : HasField Try.prog 51 0 0 := ⟨_, _, 0, Try.underlying51, rfl, rfl, by kernel_rfl⟩
theorem fE1 : HasField Try.prog 51 1 1 := ⟨_, _, 0, Try.underlying51, rfl, rfl, by kernel_rfl⟩
theorem fE2 : HasField Try.prog 51 2 2 := ⟨_, _, 31, Try.underlying51, rfl, rfl, by kernel_rfl⟩
theorem fC0 : HasField Try.prog 36 0 0 := ⟨_, _, 31, Try.underlying36, rfl, rfl, by kernel_rfl⟩
theorem fC1 : HasField Try.prog 36 1 32 := ⟨_, _, 0, Try.underlying36, rfl, rfl, by kernel_rfl⟩
theorem fC2 : HasField Try.prog 36 2 33 := ⟨_, _, 0, Try.underlying36, rfl, rfl, by kernel_rfl⟩
theorem fS0 : HasField Try.prog 84 0 0 := ⟨_, _, 0, Try.underlying84, rfl, rfl, by kernel_rfl⟩
theorem fS1 : HasField Try.prog 84 1 1 := ⟨_, _, 33, Try.underlying84, rfl, rfl, by kernel_rfl⟩
theorem szEntry : (Try.prog.info? 51).map (·.size) = some 34 := by kernel_rfl
theorem szCommit : (Try.prog.info? 36).map (·.size) = some 34 := by kernel_rfl
theorem szChild : (Try.prog.info? 61).map (·.size) = some 33 := by kernel_rfl
theorem szSaid : (Try.prog.info? 84).map (·.size) = some 35 := by kernel_rfl
theorem tEntries : Try.prog.underlying 31 = some (.slice 51) := by kernel_rfl
theorem tIds : Try.prog.underlying 34 = some (.slice 33) := by kernel_rfl
theorem tChildren : Try.prog.underlying 58 = some (.slice 61) := by kernel_rfl
theorem iEntry : (Try.prog.info? 51).map (fun i => (i.zero, i.size, i.bytes)) = some (some (.agg (arr 34 (ev ⟨[], 0, fun _ => 0⟩))), 34, 56) := by kernel_rfl
theorem iId : (Try.prog.info? 33).map (fun i => (i.zero, i.size, i.bytes)) = some (some (.agg (arr 32 (bv fun _ => 0))), 32, 32) := by kernel_rfl
theorem iChild : (Try.prog.info? 61).map (fun i => (i.zero, i.size, i.bytes)) = some (some (.agg (arr 33 (hv (fun _ => 0) 0))), 33, 40) := by kernel_rfl
theorem zEntry : (Try.prog.info? 51).map (fun i => (i.zero, i.size)) = some (some (.agg (arr 34 (ev ⟨[], 0, fun _ => 0⟩))), 34) := by kernel_rfl
theorem zId : (Try.prog.info? 33).map (fun i => (i.zero, i.size)) = some (some (.agg (arr 32 (bv fun _ => 0))), 32) := by kernel_rfl
theorem zChild : (Try.prog.info? 61).map (fun i => (i.zero, i.size)) = some (some (.agg (arr 33 (hv (fun _ => 0) 0))), 33) := by kernel_rfl
theorem bd_entry (w : World) (n : List UInt8) (k : Int) (f : Nat → UInt8) : (Instr.build 51 #[(0, .string (bs n)), (1, .int .i64 k), (2, .agg (arr 32 (bv f)))]).run Try.prog w = .ok (.agg (arr 34 (ev ⟨n, k, f⟩))) w := by kernel_rfl
theorem bd_child (w : World) (k : Int) (f : Nat → UInt8) : (Instr.build 61 #[(0, .agg (arr 32 (bv f))), (1, .int .i64 k)]).run Try.prog w = .ok (.agg (arr 33 (hv f k))) w := by kernel_rfl
end Go.Proofs.Ytiajfhoiedkaaaa
