import Derived.Test.YtnfhnkplkbpmpaaDoorPb
import Derived.Test.YtnfhnkplkbpmpaaDoorPa
import Derived.Lib.SliceRun
import Derived.StillTailTactics
namespace Go.Proofs.YtnfhnkplkbpmpaaDoor
open Go.RowKit
def wv (f : Nat → W32) (i : Nat) : Value := .int .u32 (U (f i))
def bv (f : Nat → UInt8) (i : Nat) : Value := .int .u8 ((f i).toNat : Int)
/- the hash's 73 cells -/
def hv (st : Nat → W32) (blk : Nat → UInt8) (n : Nat) (i : Nat) : Value :=
  if i < 8 then wv st i else if i < 72 then bv blk (i - 8) else .int .u64 (n : Int)

theorem Blk.setCells {b E n : Nat} : ∀ (vs : List Value) (o : Nat) (w : World) (f : Nat → Value), Blk w b E n f → 
    Blk (w.setCells b o vs) b E n (fun i => if o ≤ i ∧ i < o + vs.length then vs.getD (i - o) undef else f i)
  | [], o, w, f, h => by
    refine Blk.congr (f := f) h fun i hi => ?_
    rw [if_neg (fun e => by simp at e; omega)]
  | v :: r, o, w, f, h => by
    refine (Blk.setCells r (o + 1) _ _ (h.set o v)).congr fun i hi => ?_
    by_cases e : i = o
    · subst e
      rw [if_neg (by omega), if_pos rfl, if_pos (by simp)]; simp
    · by_cases e2 : o + 1 ≤ i ∧ i < o + 1 + r.length
      · rw [if_pos e2, if_pos (by simp; omega)]
        obtain ⟨m, rfl⟩ : ∃ m, i = o + 1 + m := ⟨i - (o + 1), by omega⟩
        rw [show o + 1 + m - (o + 1) = m by omega, show o + 1 + m - o = m + 1 by omega]
        simp
      · rw [if_neg e2, if_neg e, if_neg (by simp; omega)]
theorem setCells_grown (b : Nat) : ∀ (vs : List Value) (o : Nat) (w : World), w.grownBy (w.setCells b o vs) (some b)
  | [], o, w => ⟨rfl, rfl, rfl, Nat.le_refl _, fun _ _ _ => rfl⟩
  | v :: r, o, w => by
    have h := setCells_grown b r (o + 1) (w.setCell ⟨b, o, none⟩ v)
    exact ⟨h.os, h.tape, h.output, by have := h.size; rw [World.size_setCell] at this; exact this, fun k hk hne => by
      rw [show w.setCells b o (v :: r) = (w.setCell ⟨b, o, none⟩ v).setCells b (o + 1) r from rfl, h.block k (by simpa using hk) hne]
      exact heap_setCell_other w _ k v (fun e => hne (by rw [e]))⟩
theorem grown_refl (w : World) (r : Option Nat) : w.grownBy w r := ⟨rfl, rfl, rfl, Nat.le_refl _, fun _ _ _ => rfl⟩
theorem grown_trans {a b c : World} {r : Option Nat} (h : a.grownBy b r) (k : b.grownBy c r) : a.grownBy c r :=
  ⟨k.os.trans h.os, k.tape.trans h.tape, k.output.trans h.output, Nat.le_trans h.size k.size, fun i hi hne => (k.block i (Nat.lt_of_lt_of_le hi h.size) hne).trans (h.block i hi hne)⟩
theorem grown_below {a b : World} (h : Below a.heap.size a b) (r : Option Nat) : a.grownBy b r :=
  ⟨h.os, h.tape, h.output, h.size, fun i hi _ => h.block i hi⟩
theorem grown_drewN (w : World) (n : Nat) (r : Option Nat) : w.grownBy (w.drewN n) r := ⟨rfl, rfl, rfl, Nat.le_refl _, fun _ _ _ => rfl⟩
theorem grown_setCell (w : World) (b o : Nat) (v : Value) : w.grownBy (w.setCell ⟨b, o, none⟩ v) (some b) := setCells_grown b [v] o w
theorem grown_none {a b : World} (h : a.grownBy b none) (r : Option Nat) : a.grownBy b r := ⟨h.os, h.tape, h.output, h.size, fun i hi _ => h.block i hi (by simp)⟩
theorem below_grown {B hb : Nat} {w0 w w' : World} (h : Below B w0 w) (hg : w.grownBy w' (some hb)) (hB : B ≤ w.heap.size) (hhb : B ≤ hb) : Below B w0 w' :=
  h.grown hg hB (fun k hk => by cases hk; exact hhb)
theorem Blk.grown {w w' : World} {b hb E n f} (h : Blk w b E n f) (hg : w.grownBy w' (some hb)) (hne : b ≠ hb) : Blk w' b E n f := by
  have hl := h.lt
  unfold Blk at *
  rw [hg.block b hl (by simp [hne])]; exact h
theorem cell_grown {w w' : World} {hb : Nat} {a : Addr} {v : Value} (hg : w.grownBy w' (some hb)) (h : w.cell? a = some v) (hne : a.block ≠ hb) : w'.cell? a = some v :=
  hg.cell h (by simp [hne])
section
variable {P : Program}
/- copy(dst, s) of a string into a block's cells -/
def strCells (s : ByteArray) (m : Nat) : List Value := List.take m (List.map (fun b => Value.int .u8 b.toNat) s.data.toList)
theorem strCells_length (s : ByteArray) (m : Nat) (hm : m ≤ s.size) : (strCells s m).length = m := by
  have hm' : m ≤ s.data.size := hm
  simp [strCells]; omega
theorem strCells_get (s : ByteArray) (m j : Nat) (hm : m ≤ s.size) (hj : j < m) : (strCells s m).getD j undef = .int .u8 ((s.data.toList.getD j 0).toNat : Int) := by
  have hm' : m ≤ s.data.size := hm
  have hl := strCells_length s m hm
  rw [List.getD_eq_getElem?_getD, List.getElem?_eq_getElem (by omega)]
  have hs : j < s.data.toList.length := by simp; omega
  rw [List.getD_eq_getElem?_getD, List.getElem?_eq_getElem hs]
  simp [strCells]
theorem strCells_one (s : ByteArray) (m : Nat) : ∀ v ∈ strCells s m, v.oneCell' = true := by
  intro v hv
  have hv := List.mem_of_mem_take hv
  rw [List.mem_map] at hv
  obtain ⟨x, _, rfl⟩ := hv
  rfl
theorem run_copy_str (w : World) (dT sT ty elem : TypeId) (b o dLen dCap : Nat) (s : ByteArray)
    (hu : P.underlying dT = some (.slice elem)) (hs : (P.info? elem).map (·.size) = some 1) (m : Nat) (hm : Nat.min s.size dLen = m)
    (ht : w.there b o m) :
    (Builtin.copy_ #[dT, sT] ty #[.slice (some ⟨b, o, none⟩) dLen dCap, .string s]).run P w = .ok (goInt m) (w.setCells b o (strCells s m)) := by
  have hms : m ≤ s.size := by rw [← hm]; exact Nat.min_le_left _ _
  have hl := strCells_length s m hms
  have hst := run_storeCells_cells (P := P) b o (strCells s m) 0 w (fun j hj => by rw [hl] at hj; simpa using (ht j hj).1) (fun j hj => by rw [hl] at hj; simpa using (ht j hj).2) (strCells_one s m)
  simp only [Nat.add_zero, strCells] at hst
  cases hq : P.info? elem with
  | none => simp [hq] at hs
  | some i =>
    simp only [Builtin.copy_, List.getElem?_toArray, List.getElem?_cons_zero, List.getElem?_cons_succ, Sem.run_bind, run_underlying hu, Builtin.lenOf, Result.andThen_ok, Sem.run_pure, Builtin.firstCells, sizeOf, typeInfo, hq, hm]
    simp [hq, hst, strCells]
theorem wpList_copy_str {w : World} {ops : Array Oper} {rest : List Oper} {o : Oper} {a : Act} {Q : Exit → Act → World → Prop} (hgd : o.guard = none) (d s : Operand) (dT sT : TypeId)
    (ho : o.op = .call { callee := .builtin .copy, args := #[d, s], argTypes := #[dT, sT] }) (elem : TypeId) (hu : P.underlying dT = some (.slice elem)) (hsz : (P.info? elem).map (·.size) = some 1)
    (b off dLen dCap : Nat) (str : ByteArray) (hd : a.eval d = .slice (some ⟨b, off, none⟩) dLen dCap) (hs : a.eval s = .string str)
    (m : Nat) (hm : Nat.min str.size dLen = m) (ht : w.there b off m)
    (h : wpList P ops Q rest (a.put o.dst (goInt m)) (w.setCells b off (strCells str m))) : wpList P ops Q (o :: rest) a w := by
  refine wpList_plain hgd fun K hK => ?_
  have hrun := run_copy_str (P := P) w dT sT o.type elem b off dLen dCap str hu hsz m hm ht
  unfold Oper.wp
  simp [execOp, ho, resolve, invoke, builtin, hd, hs, hrun, Result.andThen]
  exact hK _ _ h
/- x[i] of an array by value -/
theorem run_index_arr (w : World) (ty elem : TypeId) (n : Nat) (f : Nat → Value) (k : IntKind) (i : Nat) (hu : P.underlying ty = some (.array n elem)) (hs : (P.info? elem).map (·.size) = some 1)
    (ha : P.underlying elem = some (.int .u32)) (hi : i < n) :
    (Instr.index ty (.agg (arr n f)) (.int k (i : Int))).run P w = .ok (f i) w := by
  cases hq : P.info? elem with
  | none => simp [hq] at hs
  | some d =>
    have hd : d.size = 1 := by simpa [hq] using hs
    have hagg : (isAgg elem).run P w = .ok false w := by
      unfold isAgg
      rw [Sem.run_bind, run_underlying ha w]; rfl
    have hp : (part elem (arr n f) i).run P w = .ok (f i) w := by
      unfold part
      rw [Sem.run_bind, hagg]
      simp [arr_get n f i hi]
    have hai : (asIntOf (.int k (i : Int))).run P w = .ok (k, (i : Int)) w := rfl
    simp [Instr.index, run_underlying hu, sizeOf, typeInfo, hq, hd, hi, hai, hp]
theorem oneCell_arr {n : Nat} {f : Nat → Value} (h : ∀ i, i < n → (f i).oneCell' = true) : (arr n f).all (·.oneCell') = true :=
    Array.all_eq_true_iff_forall_mem.2 (fun v hv => by
      unfold arr at hv
      rw [Array.mem_ofFn] at hv
      obtain ⟨i, rfl⟩ := hv
      exact h i i.isLt)
theorem wpStill_load_mid {ops : Array Oper} {w : World} {Q : Act → Prop} {a : Act} {o : Oper} {rest : List Oper} (hgd : o.guard = none) (ty : TypeId) (x : Operand) (ho : o.op = .load ty x)
    (b off : Nat) (hx : a.eval x = .pointer (some ⟨b, off, none⟩)) (cs : List Value) (d : TypeDesc) (hc : w.rangeAt b off cs)
    (hu : P.underlying ty = some d) (hd : d.isRow = true) (hi : (P.info? ty).map (·.size) = some cs.length)
    (h : wpStill P ops w Q rest (a.put o.dst (.agg cs.toArray))) : wpStill P ops w Q (o :: rest) a := by
  refine wpStill_step fun K hK => ?_
  have hw : Region.wanted o (yielded ops a.tmps) = true := by unfold Region.wanted; rw [hgd]
  rw [if_pos hw]
  unfold Oper.still execOp
  simp only [ho, hx, Instr.loadAt, Instr.sureAddr, Sem.run_bind, Sem.run_pure, Result.andThen_ok, run_loadVar_mid w b off ty cs d hc hu hd hi]
  exact ⟨rfl, hK _ h⟩
theorem Blk.head {w : World} {b E n : Nat} {f : Nat → Value} (h : Blk w b E n f) (m : Nat) (g : Nat → Value) (hm : m ≤ n) (hg : ∀ i, i < m → f i = g i) : w.rangeAt b 0 (arr m g).toList := by
  have := h.range 0 m (by omega)
  rw [arr_congr (g := g) (fun i hi => by rw [Nat.zero_add]; exact hg i hi)] at this
  exact this
/- clear(s) of a slice of bytes -/
theorem wpList_clear {w : World} {ops : Array Oper} {rest : List Oper} {o : Oper} {a : Act} {Q : Exit → Act → World → Prop} (hgd : o.guard = none) (hdst : o.dst = none) (d : Operand) (dT : TypeId)
    (ho : o.op = .call { callee := .builtin .clear, args := #[d], argTypes := #[dT] }) (elem : TypeId) (z : Value) (hu : P.underlying dT = some (.slice elem)) (hz : ∀ w, (zeroValue elem).run P w = .ok z w) (hzc : z.cells = #[z]) (hz1 : z.oneCell' = true)
    (b off n c : Nat) (hn : 0 < n) (hd : a.eval d = .slice (some ⟨b, off, none⟩) n c) (ht : w.there b off n)
    (h : wpList P ops Q rest a (w.setCells b off (List.replicate n z))) : wpList P ops Q (o :: rest) a w := by
  refine wpList_plain hgd fun K hK => ?_
  have hrun := Lib.run_clear_slice (P := P) w dT elem o.type z hu hz hzc hz1 b off n c hn (fun j hj => (ht j hj).1) (fun j hj => (ht j hj).2)
  unfold Oper.wp
  simp [execOp, ho, resolve, invoke, builtin, hd, hrun, Result.andThen, hdst]
  have e : a.put o.dst (.tuple #[]) = a := by rw [hdst]; rfl
  exact hK _ _ (by rw [e]; exact h)
end
end Go.Proofs.YtnfhnkplkbpmpaaDoor
