import Derived.Test.YtekeaoolodmdaaaMX4m
import Derived.Maps.OwnOps
/- Maps whose keys are complex numbers that stand for pairs of whole ones. -/
namespace Go.Proofs.Ytekeaoolodmdaaa.Mt
set_option maxRecDepth 100000
open Go.RowKit Go.ChangeMaps
section
variable {P : Program}
/- an entry: its number, its value -/
def Ent (e : MapEntry) (p : (Int × Int) × Value) : Prop := (∃ a b, e.key = .complex .f64 a b ∧ Cx a b p.1.1 p.1.2) ∧ e.val = p.2
inductive Ents : List MapEntry → List ((Int × Int) × Value) → Prop
  | nil : Ents [] []
  | cons {e p es l} : Ent e p → Ents es l → Ents (e :: es) (p :: l)
def has (l : List ((Int × Int) × Value)) (x : Int × Int) (i : Nat) : Option (Nat × Value) :=
  match l with
  | [] => none
  | p :: r => if p.1 = x then some (i, p.2) else has r x (i + 1)
theorem run_equalIn_cx (n : Nat) (w : World) (t : TypeId) (ht : P.underlying t = some (.complex .f64)) {a b c d : Nat} {x y p q : Int} (h : Cx a b x y) (k : Cx c d p q) :
    (Op.equalIn (n + 1) t (.complex .f64 a b) (.complex .f64 c d)).run P w = .ok (decide ((p, q) = (x, y))) w := by
  have e1 : Op.floatEq .f64 a c = decide (x = p) := eq_fi h.1 k.1
  have e2 : Op.floatEq .f64 b d = decide (y = q) := eq_fi h.2 k.2
  have e : decide ((p, q) = (x, y)) = (decide (x = p) && decide (y = q)) := by
    rw [Bool.eq_iff_iff]
    simp only [decide_eq_true_eq, Bool.and_eq_true, Prod.mk.injEq]
    exact ⟨fun h => ⟨h.1.symm, h.2.symm⟩, fun h => ⟨h.1.symm, h.2.symm⟩⟩
  rw [e]
  simp [Op.equalIn, run_underlying ht, e1, e2]
theorem run_equal_cx (w : World) (t : TypeId) (ht : P.underlying t = some (.complex .f64)) {a b c d : Nat} {x y p q : Int} (h : Cx a b x y) (k : Cx c d p q) :
    (Op.equal t (.complex .f64 a b) (.complex .f64 c d)).run P w = .ok (decide ((p, q) = (x, y))) w := run_equalIn_cx 9999 w t ht h k
theorem run_findAsking_cx (w : World) (t : TypeId) (ht : P.underlying t = some (.complex .f64)) {a b : Nat} {x : Int × Int} (h : Cx a b x.1 x.2) {es : List MapEntry} {l : List ((Int × Int) × Value)} (hl : Ents es l) (i : Nat) :
    (Instr.findAsking t (.complex .f64 a b) es i).run P w = .ok (has l x i) w := by
  induction hl generalizing i with
  | nil => rfl
  | @cons e p es l he _ ih =>
    obtain ⟨⟨c, d, hk, hc⟩, hv⟩ := he
    unfold Instr.findAsking has
    rw [hk, hv]
    have := run_equal_cx w t ht h hc
    by_cases e : p.1 = x
    · have e' : (p.1.1, p.1.2) = (x.1, x.2) := e
      simp [this, e', e]
    · have e' : ¬ ((p.1.1, p.1.2) = (x.1, x.2)) := e
      simp [this, e', e, ih]
theorem findNow_cx (t : TypeDesc) (ht : t = .complex .f64) {a b : Nat} {es : List MapEntry} (i : Nat) : Instr.findNow t (.complex .f64 a b) es i = if es = [] then some none else none := by
  subst ht
  cases es with
  | nil => rfl
  | cons e es => simp [Instr.findNow, Instr.sameNow]
theorem run_findKey_cx (w : World) (t : TypeId) (ht : P.underlying t = some (.complex .f64)) {a b : Nat} {x : Int × Int} (h : Cx a b x.1 x.2) {es : List MapEntry} {l : List ((Int × Int) × Value)} (hl : Ents es l) :
    (Instr.findKey t (.complex .f64 a b) es).run P w = .ok (has l x 0) w := by
  unfold Instr.findKey
  simp only [Sem.run_bind, run_underlying ht, Result.andThen_ok]
  rw [findNow_cx _ rfl]
  cases hl with
  | nil => rfl
  | cons he hl => simpa using run_findAsking_cx w t ht h (.cons he hl) 0
theorem run_checkKeyN_cx (n : Nat) (w : World) (t : TypeId) (ht : P.underlying t = some (.complex .f64)) (em : Bool) (a b : Nat) : (Instr.checkKey em (n + 1) t (.complex .f64 a b)).run P w = .ok () w := by
  simp [Instr.checkKey, run_underlying ht]
theorem run_checkKey_cx (w : World) (t : TypeId) (ht : P.underlying t = some (.complex .f64)) (em : Bool) (a b : Nat) : (Instr.checkKey em 10000 t (.complex .f64 a b)).run P w = .ok () w := run_checkKeyN_cx 9999 w t ht em a b
/- m[k] -/
theorem run_lookup_cx (w : World) (t k e : TypeId) (ht : P.underlying t = some (.map k e)) (hk : P.underlying k = some (.complex .f64)) {z : Value} (hz : (zeroValue e).run P w = .ok z w) {m : Nat} {es : Array MapEntry} {cl : Nat} (hb : w.heap[m]? = some (.map es cl))
    {l : List ((Int × Int) × Value)} (hl : Ents es.toList l) {a b : Nat} {x : Int × Int} (h : Cx a b x.1 x.2) :
    (Instr.lookup t (.map (some m)) (.complex .f64 a b) false).run P w = .ok (match has l x 0 with | some (_, v) => v | none => z) w := by
  have hf := run_findKey_cx w k hk h hl
  have hc := run_checkKey_cx w k hk es.isEmpty a b
  cases hh : has l x 0 with
  | none => simp [Instr.lookup, run_underlying ht, MapKept.run_getObj_map hb, hc, hf, hh, hz]
  | some r => obtain ⟨j, v⟩ := r; simp [Instr.lookup, run_underlying ht, MapKept.run_getObj_map hb, hc, hf, hh]
/- the entries behind m[k] = v -/
def put (l : List ((Int × Int) × Value)) (x : Int × Int) (v : Value) : List ((Int × Int) × Value) :=
  match l with
  | [] => [(x, v)]
  | p :: r => if p.1 = x then (x, v) :: r else p :: put r x v
theorem has_none {l : List ((Int × Int) × Value)} {x : Int × Int} {i : Nat} (h : has l x i = none) (v : Value) : put l x v = l ++ [(x, v)] := by
  induction l generalizing i with
  | nil => rfl
  | cons p r ih =>
    unfold has at h
    split at h
    · cases h
    · rename_i e; unfold put; rw [if_neg e, ih h]; rfl
theorem Ents.snoc {es : List MapEntry} {l : List ((Int × Int) × Value)} (h : Ents es l) {e : MapEntry} {p : (Int × Int) × Value} (he : Ent e p) : Ents (es ++ [e]) (l ++ [p]) := by
  induction h with
  | nil => exact .cons he .nil
  | cons h1 _ ih => exact .cons h1 ih
theorem Ents.modify {es : List MapEntry} {l : List ((Int × Int) × Value)} (h : Ents es l) {x : Int × Int} {i j : Nat} {v v' : Value} (hh : has l x i = some (i + j, v)) (kk : Value) (hk : ∃ a b, kk = .complex .f64 a b ∧ Cx a b x.1 x.2) :
    Ents (es.modify j fun e => { e with key := kk, val := v' }) (put l x v') := by
  induction h generalizing i j with
  | nil => simp [has] at hh
  | @cons e p es l he hes ih =>
    unfold has at hh
    split at hh
    · rename_i c
      simp at hh
      obtain ⟨hj, _⟩ := hh
      subst hj
      unfold put
      rw [if_pos c]
      exact .cons ⟨hk, rfl⟩ hes
    · rename_i c
      cases j with
      | zero =>
        exfalso
        have : ∀ (l : List ((Int × Int) × Value)) (i n : Nat) (v : Value), has l x i = some (n, v) → i ≤ n := by
          intro l
          induction l with
          | nil => intro i n v h; simp [has] at h
          | cons p r ih => intro i n v h; unfold has at h; split at h
                           · simp at h; omega
                           · have := ih _ _ _ h; omega
        have := this _ _ _ _ hh
        omega
      | succ j =>
        unfold put
        rw [if_neg c]
        exact .cons he (ih (i := i + 1) (j := j) (by rw [hh]; simp; omega))
theorem has_get {es : List MapEntry} {l : List ((Int × Int) × Value)} (h : Ents es l) {x : Int × Int} {i j : Nat} {v : Value} (hh : has l x i = some (i + j, v)) : ∃ a b, (es[j]?).map (·.key) = some (.complex .f64 a b) ∧ Cx a b x.1 x.2 := by
  induction h generalizing i j with
  | nil => simp [has] at hh
  | @cons e p es l he hes ih =>
    unfold has at hh
    split at hh
    · rename_i c
      simp at hh
      obtain ⟨hj, _⟩ := hh
      subst hj
      obtain ⟨⟨a, b, hk, hc⟩, _⟩ := he
      exact ⟨a, b, by simp [hk], by rw [← c]; exact hc⟩
    · cases j with
      | zero =>
        exfalso
        have : ∀ (l : List ((Int × Int) × Value)) (i n : Nat) (v : Value), has l x i = some (n, v) → i ≤ n := by
          intro l
          induction l with
          | nil => intro i n v h; simp [has] at h
          | cons p r ih => intro i n v h; unfold has at h; split at h
                           · simp at h; omega
                           · have := ih _ _ _ h; omega
        have := this _ _ _ _ hh
        omega
      | succ j =>
        obtain ⟨a, b, h1, h2⟩ := ih (i := i + 1) (j := j) (by rw [hh]; simp; omega)
        exact ⟨a, b, by simpa using h1, h2⟩
/- which of two like keys stays -/
theorem run_stays_cx (w : World) {a b c d : Nat} {x y : Int} (h : Cx a b x y) (k : Cx c d x y) : ∃ r s w', (Instr.keyThatStays (.complex .f64 a b) (.complex .f64 c d)).run P w = .ok (.complex .f64 r s) w' ∧ Cx r s x y ∧ (w' = w ∨ w' = w.drew) := by
  unfold Instr.keyThatStays
  by_cases e : Instr.sameBits 10000 (.complex .f64 a b) (.complex .f64 c d) = true
  · rw [if_pos e]; exact ⟨c, d, w, rfl, k, .inl rfl⟩
  · rw [if_neg e]
    have hq : Question.forced (.extern "map.whichKeyStays" 2) = false := rfl
    simp only [Sem.run_bind, run_choose_drew, hq, Bool.false_eq_true, if_false, Result.andThen_ok, Sem.run_pure]
    by_cases c : (Question.extern "map.whichKeyStays" 2).cut (w.tape w.drawn (Question.extern "map.whichKeyStays" 2)) = 0
    · rw [if_pos c]; exact ⟨_, _, _, rfl, k, .inr rfl⟩
    · rw [if_neg c]; exact ⟨_, _, _, rfl, h, .inr rfl⟩
/- m[k] = v -/
theorem run_update_cx (w : World) (t k e : TypeId) (ht : P.underlying t = some (.map k e)) (hk : P.underlying k = some (.complex .f64)) {m : Nat} {es : Array MapEntry} {cl : Nat} (hb : w.heap[m]? = some (.map es cl))
    {l : List ((Int × Int) × Value)} (hl : Ents es.toList l) {a b : Nat} {x : Int × Int} (h : Cx a b x.1 x.2) (v : Value) :
    ∃ w' es' cl', (Instr.mapUpdate t (.map (some m)) (.complex .f64 a b) v).run P w = .ok () w' ∧ w'.heap[m]? = some (.map es' cl') ∧ Ents es'.toList (put l x v) ∧ w.grownBy w' (some m) := by
  have hf := run_findKey_cx w k hk h hl
  have hc := run_checkKey_cx w k hk false a b
  have hm : m < w.heap.size := (Array.getElem?_eq_some_iff.1 hb).1
  cases hh : has l x 0 with
  | none =>
    refine ⟨setBlock w m (.map (es.push { key := .complex .f64 a b, val := v, born := cl }) (cl + 1)), es.push { key := .complex .f64 a b, val := v, born := cl }, cl + 1, ?_, heap_setBlock_same hb _, ?_, ⟨rfl, rfl, rfl, by simp [setBlock], fun i _ hi => heap_setBlock_other hb _ (fun e => hi (by rw [e]))⟩⟩
    · simp [Instr.mapUpdate, run_underlying ht, MapKept.run_getObj_map hb, hc, hf, hh, MapKept.run_setObj_map _ hb, Result.andThen, setBlock]
    · rw [has_none hh, Array.toList_push]
      exact hl.snoc ⟨⟨a, b, rfl, h⟩, rfl⟩
  | some r =>
    obtain ⟨j, u⟩ := r
    have hh0 : has l x 0 = some (0 + j, u) := by rw [hh, Nat.zero_add]
    obtain ⟨c, d, hg, hcd⟩ := has_get hl hh0
    have hg' : ((es[j]?).map (·.key)).getD (.complex .f64 a b) = .complex .f64 c d := by rw [← Array.getElem?_toList, hg]; rfl
    obtain ⟨r, s, w1, hs, hrs, hw1⟩ := run_stays_cx (P := P) w hcd h
    have hb1 : w1.heap[m]? = some (.map es cl) := by rcases hw1 with rfl | rfl <;> exact hb
    refine ⟨setBlock w1 m (.map (es.modify j fun e => { e with key := .complex .f64 r s, val := v }) cl), es.modify j fun e => { e with key := .complex .f64 r s, val := v }, cl, ?_, heap_setBlock_same hb1 _, ?_, ?_⟩
    · simp [Instr.mapUpdate, run_underlying ht, MapKept.run_getObj_map hb, hc, hf, hh, hg', hs, MapKept.run_setObj_map _ hb1, Result.andThen, setBlock]
    · rw [Array.toList_modify]
      exact hl.modify hh0 _ ⟨r, s, rfl, hrs⟩
    · rcases hw1 with rfl | rfl
      · exact ⟨rfl, rfl, rfl, by simp [setBlock], fun i _ hi => heap_setBlock_other hb _ (fun e => hi (by rw [e]))⟩
      · exact ⟨rfl, rfl, rfl, by simp [setBlock], fun i _ hi => heap_setBlock_other hb1 _ (fun e => hi (by rw [e]))⟩
/- at the operations -/
theorem wpList_lookup_run {ops : Array Oper} {rest : List Oper} {o : Oper} {a : Act} {w : World} {Q : Exit → Act → World → Prop} (hg : o.guard = none) (m x : Operand) (t : TypeId) (hop : o.op = Op.lookup t m x false)
    (vm vx v : Value) (hm : a.eval m = vm) (hx : a.eval x = vx) (hrun : (Instr.lookup t vm vx false).run P w = .ok v w) (h : wpList P ops Q rest (a.put o.dst v) w) : wpList P ops Q (o :: rest) a w := by
  refine wpList_plain hg fun K' hK' => ?_
  unfold Oper.wp
  simp [execOp, hop, hm, hx, hrun, Result.andThen]
  exact hK' _ _ h
theorem wpList_update_run {ops : Array Oper} {rest : List Oper} {o : Oper} {a : Act} {w w' : World} {Q : Exit → Act → World → Prop} (hg : o.guard = none) (m x v : Operand) (t : TypeId) (hop : o.op = Op.mapUpdate t m x v)
    (vm vx vv : Value) (hm : a.eval m = vm) (hx : a.eval x = vx) (hv : a.eval v = vv) (hrun : (Instr.mapUpdate t vm vx vv).run P w = .ok () w') (h : wpList P ops Q rest (a.put o.dst undef) w') : wpList P ops Q (o :: rest) a w := by
  refine wpList_plain hg fun K' hK' => ?_
  unfold Oper.wp
  simp [execOp, hop, hm, hx, hv, hrun, Result.andThen]
  exact hK' _ _ h
end
end Go.Proofs.Ytekeaoolodmdaaa.Mt
