import Derived.Test.YtnmjcpoobabjgaaGreatDoorV7m
import Derived.Deep.MidRow
import Derived.Deep.Cut
import Derived.Deep.QuietTactic
import Derived.BigQuiet
import Derived.Deep.WholeRow
import Derived.WalkLawsBesides
import Derived.Shelf.SlicesQ.Contains
import Derived.Shelf.SlicesE.Clone
import Derived.Test.YtnmjcpoobabjgaaGreatDoorProg
import Derived.Deep.RegionHeld3
import Derived.StillTailTactics
set_option linter.unusedVariables false
set_option linter.unusedSimpArgs false
/- Values and cells of entries, ids, commits, children; their loads, addresses, buildings. -/
namespace Go.Proofs.YtnmjcpoobabjgaaGreatDoor
open Go.RowKit
/- n cells from a place on, as a function tells them -/
def At (w : World) (b p n : Nat) (f : Nat → Value) : Prop := ∀ j, j < n → w.cell? ⟨b, p + j, none⟩ = some (f j)
theorem At.range {w : World} {b p n : Nat} {f : Nat → Value} (h : At w b p n f) : w.rangeAt b p (arr n f).toList := by
  intro j v hv
  have hj : j < n := by
    have := (List.getElem?_eq_some_iff.1 hv).1
    rw [Array.length_toList, arr_size] at this
    exact this
  rw [Array.getElem?_toList, arr_get _ _ _ hj] at hv
  cases hv
  exact h j hj
theorem At.lt {w : World} {b p n : Nat} {f : Nat → Value} (h : At w b p n f) (hn : 0 < n) : b < w.heap.size := block_lt_of_cell (h 0 hn)
theorem At.keep {K : Nat → Prop} {w w' : World} {b p n : Nat} {f : Nat → Value} (h : At w b p n f) (hk : Keep K w w') (hb : K b) : At w' b p n f := fun j hj => hk.cell hb (h j hj)
theorem At.below {B : Nat} {w w' : World} {b p n : Nat} {f : Nat → Value} (h : At w b p n f) (hb : Below B w w') (hl : b < B) : At w' b p n f := fun j hj => by rw [hb.cell hl]; exact h j hj
theorem At.part {w : World} {b p n : Nat} {f : Nat → Value} (h : At w b p n f) (q m : Nat) (g : Nat → Value) (hm : q + m ≤ n) (hg : ∀ j, j < m → f (q + j) = g j) : At w b (p + q) m g := fun j hj => by
  rw [Nat.add_assoc, h (q + j) (by omega), hg j hj]
theorem Blk.at0 {w : World} {b E n f} (h : Blk w b E n f) : At w b 0 n f := fun j hj => by rw [Nat.zero_add]; exact h.cell j hj
section
variable {P : Program}
theorem wpList_val {ops : Array Oper} {rest : List Oper} {o : Oper} {a : Act} {w : World} {Q : Exit → Act → World → Prop} (hg : o.guard = none) (v : Value) (w' : World) (hr : (execOp a.eval o).run P w = .ok (.value v) w')
    (h : wpList P ops Q rest (a.put o.dst v) w') : wpList P ops Q (o :: rest) a w :=
  wpList_plain hg fun K hK => by unfold Oper.wp; rw [hr]; exact hK _ _ h
theorem wpList_unit {ops : Array Oper} {rest : List Oper} {o : Oper} {a : Act} {w : World} {Q : Exit → Act → World → Prop} (hg : o.guard = none) (w' : World) (hr : (execOp a.eval o).run P w = .ok .skip w')
    (h : wpList P ops Q rest (a.put o.dst undef) w') : wpList P ops Q (o :: rest) a w :=
  wpList_plain hg fun K hK => by unfold Oper.wp; rw [hr]; exact hK _ _ h
/- the same as steps of a region that draws -/
theorem step_val {ops : Array Oper} {o : Oper} {a : Act} {w : World} {K : Act → World → Prop} {Q : Exit → Act → World → Prop} {E : Prop} (hg : o.guard = none) (v : Value) (w' : World) (hr : (execOp a.eval o).run P w = .ok (.value v) w')
    (hK : K (a.put o.dst v) w') : if Region.wanted o (yielded ops a.tmps) = true then Oper.wp P o a w K Q else E := by
  have hw : Region.wanted o (yielded ops a.tmps) = true := by simp [Region.wanted, hg]
  rw [if_pos hw]
  unfold Oper.wp
  rw [hr]
  exact hK
theorem ex_load {o : Oper} {a : Act} {w : World} (ty : TypeId) (x : Operand) (ho : o.op = .load ty x) (b p n : Nat) (f : Nat → Value) (hx : a.eval x = .pointer (some ⟨b, p, none⟩)) {d : TypeDesc}
    (hu : P.underlying ty = some d) (hd : d.isRow = true) (hi : (P.info? ty).map (·.size) = some n) (hc : At w b p n f) : (execOp a.eval o).run P w = .ok (.value (.agg (arr n f))) w := by
  have hr := run_loadAt_mid w b p ty (arr n f).toList d hc.range hu hd (by rw [Array.length_toList, arr_size]; exact hi)
  rw [Array.toArray_toList] at hr
  unfold execOp
  simp only [ho, hx, Sem.run_bind, hr, Result.andThen_ok]
  rfl
/- field k of a struct lies q cells behind its beginning -/
def HasField (P : Program) (ty : TypeId) (k q : Nat) : Prop := ∃ fs f s, P.underlying ty = some (.struct fs) ∧ fs[k]? = some f ∧ f.offset = q ∧ (P.info? f.type).map (·.size) = some (s + 1)
theorem ex_field {o : Oper} {a : Act} {w : World} {ty : TypeId} {k q : Nat} (hF : HasField P ty k q) (x : Operand) (ho : o.op = .fieldAddr ty x k) (b p : Nat) (hx : a.eval x = .pointer (some ⟨b, p, none⟩)) :
    (execOp a.eval o).run P w = .ok (.value (.pointer (some ⟨b, p + q, none⟩))) w := by
  obtain ⟨fs, f, s, hu, hf, rfl, hs⟩ := hF
  cases hq : P.info? f.type with
  | none => rw [hq] at hs; simp at hs
  | some i =>
    have h2 : i.size = s + 1 := by rw [hq] at hs; simpa using hs
    unfold execOp
    simp [ho, hx, Instr.fieldAt, run_underlying hu, hf, Instr.sureAddr, fieldPlace, Addr.add_mid, sizeOf, typeInfo, hq, h2]
theorem ex_index {o : Oper} {a : Act} {w : World} (ty e : TypeId) (x y : Operand) (ho : o.op = .indexAddr ty x y) (b p k len cap m : Nat) (hx : a.eval x = .slice (some ⟨b, p, none⟩) len cap) (hy : a.eval y = .int .i64 k)
    (hu : P.underlying ty = some (.slice e)) (hi : (P.info? e).map (·.size) = some m) (hk : k < len) : (execOp a.eval o).run P w = .ok (.value (.pointer (some ⟨b, p + k * m, none⟩))) w := by
  cases hq : P.info? e with
  | none => rw [hq] at hi; simp at hi
  | some i =>
    have hs : i.size = m := by rw [hq] at hi; simpa using hi
    have hk2 : (k : Int) < (len : Int) := by omega
    have h3 : (Instr.indexAt ty (.slice (some ⟨b, p, none⟩) len cap) (.int .i64 k)).run P w = .ok (.pointer (some ⟨b, p + k * m, none⟩)) w := by
      simp [Instr.indexAt, run_underlying hu, sizeOf, typeInfo, hq, hs, asIntOf, hk2, Addr.add_mid]
      intro h
      omega
    unfold execOp
    simp only [ho, hx, hy, Sem.run_bind, h3, Result.andThen_ok]
    rfl
theorem ex_store {o : Oper} {a : Act} {w : World} (ty : TypeId) (x y : Operand) (ho : o.op = .store ty x y) (b p n : Nat) (f : Nat → Value) (hx : a.eval x = .pointer (some ⟨b, p, none⟩)) (hy : a.eval y = .agg (arr n f))
    (ht : w.there b p n) (hi : (P.info? ty).map (·.size) = some n) (h1 : ∀ i, i < n → (f i).oneCell' = true) : (execOp a.eval o).run P w = .ok .skip (w.setCells b p (arr n f).toList) := by
  have hr := run_storeAt_mid (P := P) w b p ty (arr n f) (by rw [arr_size]; exact ht) (by rw [arr_size]; exact hi) (Array.all_eq_true_iff_forall_mem.2 (fun v hv => by
      unfold arr at hv
      rw [Array.mem_ofFn] at hv
      obtain ⟨i, rfl⟩ := hv
      exact h1 i i.isLt))
  unfold execOp
  simp only [ho, hx, hy, Sem.run_bind, hr, Result.andThen_ok]
  rfl
/- a slice of one element of m cells -/
theorem fill_one (m : Nat) (hm : 0 < m) (Z : Array Value) (f : Nat → Value) : Instr.fill (fun i => some (i * m, m)) (Array.map (fun x => Z[x % Z.size]!) (Array.range (1 * m))) [(0, .agg (arr m f))] = some (arr m f) := by
  have key : ∀ (l : List Value) (o : Nat) (cs : Array Value), o + l.length ≤ cs.size → ∀ i, ((l.zipIdx o).foldl (fun cs x => cs.setIfInBounds (0 + x.2) x.1) cs)[i]? = if o ≤ i ∧ i < o + l.length then l[i - o]? else cs[i]? := by
    intro l
    induction l with
    | nil => intro o cs _ i; rw [if_neg (by simp)]; rfl
    | cons v r ih =>
      intro o cs ho i
      rw [List.zipIdx_cons, List.foldl_cons, ih (o + 1) _ (by simp at ho ⊢; omega)]
      rw [List.length_cons] at ho ⊢
      by_cases c : i = o
      · subst c
        rw [if_neg (by omega), if_pos (by omega), Nat.sub_self]
        rw [Nat.zero_add, Array.getElem?_setIfInBounds_self_of_lt (by omega)]
        rfl
      · by_cases c2 : o + 1 ≤ i ∧ i < o + 1 + r.length
        · rw [if_pos c2, if_pos (by omega), show i - o = (i - (o + 1)) + 1 by omega]; rfl
        · rw [if_neg c2, if_neg (by omega), Array.getElem?_setIfInBounds, if_neg (by simp; omega)]
  have hs : (Array.map (fun x => Z[x % Z.size]!) (Array.range (1 * m))).size = m := by simp
  unfold Instr.fill
  simp only [Nat.zero_mul, Value.cells, arr_size, hs, Nat.zero_add]
  rw [if_neg (by simp)]
  unfold Instr.fill
  congr 1
  apply Array.ext_getElem?
  intro i
  rw [← Array.foldl_toList, Array.toList_zipIdx]
  have := key (arr m f).toList 0 (Array.map (fun x => Z[x % Z.size]!) (Array.range (1 * m))) (by rw [hs, Array.length_toList, arr_size]; omega) i
  simp only [Nat.zero_add] at this
  rw [this, Array.length_toList, arr_size]
  by_cases hi : i < m
  · rw [if_pos ⟨by omega, by omega⟩, Nat.sub_zero, Array.getElem?_toList]
  · rw [if_neg (by omega), Array.getElem?_eq_none (by rw [hs]; omega), Array.getElem?_eq_none (by rw [arr_size]; omega)]
theorem run_bslice (w : World) (t e : TypeId) (m : Nat) (f : Nat → Value) (z : Value) (ht : P.underlying t = some (.slice e)) (hi : (P.info? e).map (fun i => (i.zero, i.size)) = some (some z, m)) (hm : 0 < m) (hm2 : m < 1000) :
    (Instr.buildSlice t 1 #[(0, .agg (arr m f))]).run P w = .ok (.slice (some ⟨w.heap.size, 0, none⟩) 1 1) (w.alloc (.cells (arr m f) e)) := by
  have hf := fill_one m hm z.cells f
  have hmm : ¬ (16777216 < m) := by omega
  have hm0 : ¬ (m = 0) := by omega
  cases hq : P.info? e with
  | none => rw [hq] at hi; simp at hi
  | some i =>
    rw [hq] at hi
    simp only [Option.map_some, Option.some.injEq, Prod.mk.injEq] at hi
    obtain ⟨h1, h2⟩ := hi
    simp only [Nat.one_mul] at hf
    simp [Instr.buildSlice, run_underlying ht, sizeOf, typeInfo, hq, h2, zeroValue, h1, newRow, hmm, hm0]
    simp [hf]
theorem ex_bslice {o : Oper} {a : Act} {w : World} (t e : TypeId) (x : Operand) (ho : o.op = .buildSlice t 1 #[(0, x)]) (m : Nat) (f : Nat → Value) (hx : a.eval x = .agg (arr m f)) {z : Value} (ht : P.underlying t = some (.slice e)) (hi : (P.info? e).map (fun i => (i.zero, i.size)) = some (some z, m)) (hm : 0 < m) (hm2 : m < 1000) :
    (execOp a.eval o).run P w = .ok (.value (.slice (some ⟨w.heap.size, 0, none⟩) 1 1)) (w.alloc (.cells (arr m f) e)) := by
  have hr := run_bslice (P := P) w t e m f z ht hi hm hm2
  unfold execOp
  simp only [ho, List.map_toArray, List.map_cons, List.map_nil, hx, Sem.run_bind, hr, Result.andThen_ok]
  rfl
end
/- cells of entries, commits, bodies, children -/
def ev (e : Ent) (i : Nat) : Value := if i = 0 then .string (bs e.name) else if i = 1 then .int .i64 e.kind else cb (e.id (i - 2))
def cv (t : Nat → UInt8) (p : Value) (s : List UInt8) (i : Nat) : Value := if i < 32 then cb (t i) else if i = 32 then p else .string (bs s)
def sv (v : Value) (t : Nat → UInt8) (p : Value) (s : List UInt8) (i : Nat) : Value := if i = 0 then v else cv t p s (i - 1)
def hv (f : Nat → UInt8) (k : Int) (i : Nat) : Value := if i < 32 then cb (f i) else .int .i64 k
theorem ev_id (e : Ent) (j : Nat) : ev e (2 + j) = bv e.id j := by unfold ev; rw [if_neg (by omega), if_neg (by omega), show 2 + j - 2 = j by omega]; rfl
theorem ev_one (e : Ent) (i : Nat) : (ev e i).oneCell' = true := by unfold ev; split; rfl; split <;> rfl
theorem cv_one (t : Nat → UInt8) (p : Value) (hp : p.oneCell' = true) (s : List UInt8) (i : Nat) : (cv t p s i).oneCell' = true := by unfold cv; split; rfl; split; exact hp; rfl
theorem sv_one (v : Value) (hv : v.oneCell' = true) (t : Nat → UInt8) (p : Value) (hp : p.oneCell' = true) (s : List UInt8) (i : Nat) : (sv v t p s i).oneCell' = true := by unfold sv; split; exact hv; exact cv_one t p hp s _
/- types -/
theorem fE2 : HasField Tryz.prog 164 2 2 := ⟨_, _, 31, Tryz.underlying164, rfl, rfl, by kernel_rfl⟩
theorem fC0 : HasField Tryz.prog 134 0 0 := ⟨_, _, 31, Tryz.underlying134, rfl, rfl, by kernel_rfl⟩
theorem fC1 : HasField Tryz.prog 134 1 32 := ⟨_, _, 0, Tryz.underlying134, rfl, rfl, by kernel_rfl⟩
theorem fS1 : HasField Tryz.prog 150 1 1 := ⟨_, _, 33, Tryz.underlying150, rfl, rfl, by kernel_rfl⟩
theorem szEntry : (Tryz.prog.info? 164).map (·.size) = some 34 := by kernel_rfl
theorem szCommit : (Tryz.prog.info? 134).map (·.size) = some 34 := by kernel_rfl
theorem szSaid : (Tryz.prog.info? 150).map (·.size) = some 35 := by kernel_rfl
theorem tEntries : Tryz.prog.underlying 130 = some (.slice 164) := by kernel_rfl
theorem tIds : Tryz.prog.underlying 30 = some (.slice 37) := by kernel_rfl
theorem iEntry : (Tryz.prog.info? 164).map (fun i => (i.zero, i.size, i.bytes)) = some (some (.agg (arr 34 (ev ⟨[], 0, fun _ => 0⟩))), 34, 56) := by kernel_rfl
theorem iId : (Tryz.prog.info? 37).map (fun i => (i.zero, i.size, i.bytes)) = some (some (.agg (arr 32 (bv fun _ => 0))), 32, 32) := by kernel_rfl
theorem zEntry : (Tryz.prog.info? 164).map (fun i => (i.zero, i.size)) = some (some (.agg (arr 34 (ev ⟨[], 0, fun _ => 0⟩))), 34) := by kernel_rfl
theorem zId : (Tryz.prog.info? 37).map (fun i => (i.zero, i.size)) = some (some (.agg (arr 32 (bv fun _ => 0))), 32) := by kernel_rfl
theorem bd_entry (w : World) (n : List UInt8) (k : Int) (f : Nat → UInt8) : (Instr.build 164 #[(0, .string (bs n)), (1, .int .i64 k), (2, .agg (arr 32 (bv f)))]).run Tryz.prog w = .ok (.agg (arr 34 (ev ⟨n, k, f⟩))) w := by kernel_rfl
end Go.Proofs.YtnmjcpoobabjgaaGreatDoor
/- Rows of entries; whether entries may be: the program's answer, and the reference's. -/
namespace Go.Proofs.YtnmjcpoobabjgaaGreatDoor
open Go.RowKit Classical
/- a slice of n elements of m cells each, which c tells -/
def Row (w : World) (v : Value) (m : Nat) (c : Nat → Value) (n : Nat) : Prop :=
  (∃ ad cap, v = .slice ad 0 cap ∧ n = 0) ∨ (∃ b o cap, v = .slice (some ⟨b, o, none⟩) n cap ∧ 0 < n ∧ n ≤ cap ∧ b < w.heap.size ∧ ∀ i, i < n * m → w.cell? ⟨b, o + i, none⟩ = some (c i))
theorem row_addr {w : World} {v : Value} {m : Nat} {c : Nat → Value} {n : Nat} (h : Row w v m c n) : ∃ ad cap, v = .slice ad n cap ∧ (0 < n → ∃ b o, ad = some ⟨b, o, none⟩ ∧ b < w.heap.size ∧ At w b o (n * m) c) := by
  rcases h with ⟨ad, cap, rfl, rfl⟩ | ⟨b, o, cap, rfl, h0, _, hb, hc⟩
  · exact ⟨ad, cap, rfl, fun h => absurd h (by omega)⟩
  · exact ⟨_, cap, rfl, fun _ => ⟨b, o, rfl, hb, hc⟩⟩
theorem row_cap {w : World} {ad : Option Addr} {m n cap : Nat} {c : Nat → Value} (h : Row w (.slice ad n cap) m c n) (h0 : 0 < n) : n ≤ cap := by
  rcases h with ⟨ad, cap, e, rfl⟩ | ⟨b, o, cap, e, _, h2, _⟩
  · omega
  · cases e; exact h2
theorem Row.keep {K : Nat → Prop} {W W' : World} {v : Value} {m : Nat} {c : Nat → Value} {n : Nat} (h : Row W v m c n) (hk : Keep K W W') (hK : ∀ g o l cap, v = .slice (some ⟨g, o, none⟩) l cap → K g) : Row W' v m c n := by
  rcases h with h | ⟨b, k, cap, h1, h2, h3, h4, h5⟩
  · exact Or.inl h
  · exact Or.inr ⟨b, k, cap, h1, h2, h3, Nat.lt_of_lt_of_le h4 hk.size, fun i hi => hk.cell (hK _ _ _ _ h1) (h5 i hi)⟩
theorem Row.below {W W' : World} {v : Value} {m : Nat} {c : Nat → Value} {n : Nat} (h : Row W v m c n) (hb : Below W.heap.size W W') : Row W' v m c n := h.keep (K := fun _ => True) (Keep.all hb) (fun _ _ _ _ _ => trivial)
theorem Row.congr {W : World} {v : Value} {m : Nat} {c d : Nat → Value} {n : Nat} (h : Row W v m c n) (e : ∀ i, i < n * m → c i = d i) : Row W v m d n := by
  rcases h with h | ⟨b, k, cap, h1, h2, h3, h4, h5⟩
  · exact Or.inl h
  · exact Or.inr ⟨b, k, cap, h1, h2, h3, h4, fun i hi => by rw [h5 i hi, e i hi]⟩
theorem Row.nil (w : World) (m : Nat) (c : Nat → Value) : Row w (.slice none 0 0) m c 0 := Or.inl ⟨_, _, rfl, rfl⟩
/- the cells of entries, of ids, of children -/
def ec (es : Nat → Ent) (i : Nat) : Value := ev (es (i / 34)) (i % 34)
def pc (p : Nat → Nat → UInt8) (i : Nat) : Value := bv (p (i / 32)) (i % 32)
theorem ec_at (es : Nat → Ent) (k j : Nat) (hj : j < 34) : ec es (k * 34 + j) = ev (es k) j := by
  unfold ec
  rw [show (k * 34 + j) / 34 = k by omega, show (k * 34 + j) % 34 = j by omega]
theorem pc_at (p : Nat → Nat → UInt8) (k j : Nat) (hj : j < 32) : pc p (k * 32 + j) = bv (p k) j := by
  unfold pc
  rw [show (k * 32 + j) / 32 = k by omega, show (k * 32 + j) % 32 = j by omega]
theorem At.ent {w : World} {b o n : Nat} {es : Nat → Ent} (h : At w b o (n * 34) (ec es)) (k : Nat) (hk : k < n) : At w b (o + k * 34) 34 (ev (es k)) :=
  h.part (k * 34) 34 _ (by omega) fun j hj => ec_at es k j hj
theorem At.idk {w : World} {b o n : Nat} {p : Nat → Nat → UInt8} (h : At w b o (n * 32) (pc p)) (k : Nat) (hk : k < n) : At w b (o + k * 32) 32 (bv (p k)) :=
  h.part (k * 32) 32 _ (by omega) fun j hj => pc_at p k j hj
theorem At.one {w : World} {b p n : Nat} {f : Nat → Value} (h : At w b p n f) (j : Nat) (hj : j < n) : w.cell? ⟨b, p + j, none⟩ = some (f j) := h j hj
/- entries that may be, one behind the other -/
def okE (es : Nat → Ent) (k : Nat) : Prop := ∀ i, i < k → nameOk (es i).name ∧ kindOk (es i).kind ∧ (0 < i → Op.bytesLess (es (i - 1)).name (es i).name = true)
theorem entsOk_iff (es : Nat → Ent) (n : Nat) : entsOk es n ↔ n ≤ 32 ∧ okE es n := by
  unfold entsOk okE
  constructor
  · rintro ⟨h1, h2, h3⟩
    refine ⟨h1, fun i hi => ⟨(h2 i hi).1, (h2 i hi).2, fun h0 => ?_⟩⟩
    have := h3 (i - 1) (by omega)
    rwa [show i - 1 + 1 = i by omega] at this
  · rintro ⟨h1, h2⟩
    refine ⟨h1, fun i hi => ⟨(h2 i hi).1, (h2 i hi).2.1⟩, fun i hi => ?_⟩
    have := (h2 (i + 1) hi).2.2 (by omega)
    rwa [show i + 1 - 1 = i by omega] at this
theorem okE_zero (es : Nat → Ent) : okE es 0 := fun i hi => absurd hi (by omega)
theorem okE_succ {es : Nat → Ent} {k : Nat} (h : okE es k) (h1 : nameOk (es k).name) (h2 : kindOk (es k).kind) (h3 : 0 < k → Op.bytesLess (es (k - 1)).name (es k).name = true) : okE es (k + 1) := by
  intro i hi
  by_cases c : i < k
  · exact h i c
  · have e : i = k := by omega
    subst e
    exact ⟨h1, h2, h3⟩
set_option maxHeartbeats 2000000 in
set_option maxRecDepth 100000 in
theorem oents_any (es : Nat → Ent) (v : Value) (n : Nat) (w : World) (hR : Row w v 34 (ec es) n) (hn : n ≤ 140737488355328) (hs : ∀ i, i < n → (es i).name.length ≤ 281474976710656) :
    Calls Tryz.prog 126 #[v] w fun e w' => e = .returned (.bool (decide (entsOk es n))) ∧ Below w.heap.size w w' := by
  obtain ⟨ad, cap, rfl, ha⟩ := row_addr hR
  have HA := Lib.hid ha
  have HS := Lib.hid hs
  clear ha hs hR
  by_cases h32 : 32 < n
  · have e : decide (entsOk es n) = false := decide_eq_false fun h => by have := h.1; omega
    have t1 : (32 : Int) < (n : Int) := by omega
    rw [e]
    clear h32 e
    go_enter Tryz.func126, Tryz.ntmps126
    go_wp2
    go_ret
    exact ⟨rfl, Below.refl _ _⟩
  · have t1 : (n : Int) ≤ 32 := by omega
    have H32 : Hid (n ≤ 32) := by show n ≤ 32; omega
    have bad : Hid (∀ k, k < n → ¬ (nameOk (es k).name ∧ kindOk (es k).kind ∧ (0 < k → Op.bytesLess (es (k - 1)).name (es k).name = true)) → decide (entsOk es n) = false) := fun k hk h => decide_eq_false fun h2 => h (((entsOk_iff es n).1 h2).2 k hk)
    clear h32
    go_enter Tryz.func126, Tryz.ntmps126
    go_wp2
    go_loopw [10] (fun i wr => ∃ k : Nat, k ≤ n ∧ i = .int .i64 k ∧ Hid (okE es k) ∧ Hid (Below w.heap.size w wr)) (fun i _ => n - (intOf i).toNat)
    case atStart => exact ⟨0, by omega, rfl, okE_zero es, Below.refl _ _⟩
    case round =>
      obtain ⟨k, hk, rfl, hO, hL⟩ := hrel
      by_cases hlt : k < n
      · obtain ⟨b, o, rfl, hb, hc0⟩ := HA.out (by omega)
        have hb2 : b < wr.heap.size := Nat.lt_of_lt_of_le hb hL.out.size
        have hc : At wr b o (n * 34) (ec es) := hc0.below hL.out hb
        have HC := Lib.hid hc
        have ck := hc.ent k hlt
        have hz := HS.out k hlt
        have zk : (0 : Int) ≤ (k : Int) := by omega
        have yk : (k : Int) < (n : Int) := by omega
        have BAD := Lib.hid (bad.out k hlt)
        have HLT := Lib.hid hlt
        clear hc hc0 hb
        go_upto_region 6 with (first | (refine wpList_val rfl _ _ (ex_load 164 (.tmp 13) rfl b (o + k * 34) 34 (ev (es k)) rfl Tryz.underlying164 rfl szEntry ck) ?_) | (refine wpList_store_blk rfl 164 (.tmp 4) (.tmp 14) rfl wr.heap.size 34 (ev (es k)) (ev ⟨[], 0, fun _ => 0⟩) rfl rfl 164 (Blk.newAt _ (heap_alloc_new _ _) rfl) szEntry (fun i _ => ev_one _ i) ?_))
        rw [World.setRow_alloc_new]
        have B1 : Blk (wr.alloc (.cells (arr 34 (ev (es k))) 164)) wr.heap.size 164 34 (ev (es k)) := Blk.newAt _ (heap_alloc_new _ _) rfl
        have L1 := Lib.hid (hL.out.alloc hL.out.size (.cells (arr 34 (ev (es k))) 164))
        have HC1 : Hid (At (wr.alloc (.cells (arr 34 (ev (es k))) 164)) b o (n * 34) (ec es)) := HC.out.below ((Below.refl wr.heap.size wr).alloc (Nat.le_refl _) _) hb2
        clear ck HC
        generalize wr.alloc (.cells (arr 34 (ev (es k))) 164) = w2 at B1 L1 HC1 ⊢
        generalize wr.heap.size = zb at B1 hb2 ⊢
        have c0 : w2.cell? ⟨zb, 0, none⟩ = some (.string (bs (es k).name)) := B1.cell 0 (by omega)
        have c1 : w2.cell? ⟨zb, 1, none⟩ = some (.int .i64 (es k).kind) := B1.cell 1 (by omega)
        clear B1
        have N := oname_any (es k).name w2 hz
        have hnm := nmB_iff (es k).name
        clear hz
        by_cases hN : nmB (es k).name = true
        · rw [hN] at N
          have HN := Lib.hid (hnm.1 hN)
          have hlen : (bs (es k).name).size ≤ 32 := by rw [bs_size]; exact HN.out.2.1
          clear hN hnm
          by_cases hK : kindOk (es k).kind
          · have HK := Lib.hid hK
            have hk12 : ((es k).kind != 1) = false ∨ ((es k).kind != 1) = true ∧ ((es k).kind != 2) = false := by rcases hK with h | h <;> rw [h] <;> decide
            clear hK
            have ways : k = 0 ∨ ∃ m, k = m + 1 := by rcases k with _ | m; exact Or.inl rfl; exact Or.inr ⟨m, rfl⟩
            rcases ways with rfl | ⟨m, rfl⟩
            · have O2 := Lib.hid (okE_succ hO.out HN.out HK.out fun h => absurd h (by omega))
              rcases hk12 with d1 | ⟨d1, d2⟩
              all_goals (go_wp2_with fail; refine N.mono ?_; rintro e w3 ⟨rfl, rfl⟩; go_wp2; go_quiet (fail); go_wp2)
              all_goals go_roundw
              all_goals first | exact ⟨1, HLT.out, by go_num, O2, below_drewN L1.out _⟩ | (simp [intOf]; have := HLT.out; omega)
            · have cm : w2.cell? ⟨b, o + m * 34, none⟩ = some (.string (bs (es m).name)) := (HC1.out.ent m (by omega)) 0 (by omega)
              have zm : (0 : Int) ≤ (m : Int) := by omega
              have ym : (m : Int) < (n : Int) := by omega
              have gm : (0 : Int) < ((m + 1 : Nat) : Int) := by omega
              have wm : IntKind.i64.wrap (m : Int) = (m : Int) := IntWalk.i64_in _ (by omega)
              have wm2 : IntKind.i64.wrap ((m : Int) + 1 - 1) = (m : Int) := by rw [show (m : Int) + 1 - 1 = (m : Int) by omega]; exact wm
              by_cases hl : Op.bytesLess (es m).name (es (m + 1)).name = true
              · have O2 := Lib.hid (okE_succ hO.out HN.out HK.out fun _ => hl)
                have bl : Op.bytesLess (bs (es m).name).toList (bs (es (m + 1)).name).toList = true := by rw [toList_bs, toList_bs]; exact hl
                clear hl
                rcases hk12 with d1 | ⟨d1, d2⟩
                all_goals (go_wp2_with fail; refine N.mono ?_; rintro e w3 ⟨rfl, rfl⟩; go_wp2; go_quiet (fail); go_wp2)
                all_goals go_roundw
                all_goals first | exact ⟨m + 1 + 1, HLT.out, by go_num, O2, below_drewN L1.out _⟩ | (simp [intOf]; have := HLT.out; omega)
              · have bl : Op.bytesLess (bs (es m).name).toList (bs (es (m + 1)).name).toList = false := by rw [toList_bs, toList_bs]; simpa using hl
                have E := Lib.hid (BAD.out fun h => hl (h.2.2 (by omega)))
                clear hl
                rcases hk12 with d1 | ⟨d1, d2⟩
                all_goals (go_wp2_with fail; refine N.mono ?_; rintro e w3 ⟨rfl, rfl⟩; go_wp2; go_quiet (fail); go_wp2)
                all_goals go_ret
                all_goals rw [E.out]
                all_goals exact ⟨rfl, below_drewN L1.out _⟩
          · have d1 : ((es k).kind != 1) = true := by
              have : ¬ (es k).kind = 1 := fun h => hK (Or.inl h)
              simpa using this
            have d2 : ((es k).kind != 2) = true := by
              have : ¬ (es k).kind = 2 := fun h => hK (Or.inr h)
              simpa using this
            have E := Lib.hid (BAD.out fun h => hK h.2.1)
            clear hK
            go_wp2_with fail
            refine N.mono ?_
            rintro e w3 ⟨rfl, rfl⟩
            go_wp2
            go_ret
            rw [E.out]
            exact ⟨rfl, L1.out⟩
        · have hN2 : nmB (es k).name = false := by simpa using hN
          rw [hN2] at N
          have E := Lib.hid (BAD.out fun h => hN (hnm.2 h.1))
          clear hN hN2 hnm
          go_wp2_with fail
          refine N.mono ?_
          rintro e w3 ⟨rfl, rfl⟩
          go_wp2
          go_ret
          rw [E.out]
          exact ⟨rfl, L1.out⟩
      · have ek : k = n := by omega
        subst ek
        have E := Lib.hid (decide_eq_true ((entsOk_iff es k).2 ⟨H32.out, hO.out⟩))
        have yk : (k : Int) ≤ (k : Int) := by omega
        clear hlt
        go_wp2
        go_ret
        rw [E.out]
        exact ⟨rfl, hL.out⟩
end Go.Proofs.YtnmjcpoobabjgaaGreatDoor
/- Whether entries may be: the reference's answer. -/
namespace Go.Proofs.YtnmjcpoobabjgaaGreatDoor
open Go.RowKit Classical
theorem less_le (a b : List UInt8) (h : Op.bytesLess a b = true) : Op.bytesLess (bs b).toList (bs a).toList = false ∧ ((bs b).toList == (bs a).toList) = false := by
  rw [toList_bs, toList_bs]
  refine ⟨bl_asymm _ _ h, ?_⟩
  cases c : b == a
  · rfl
  · have e : b = a := by simpa using c
    subst e
    rw [bl_irrefl] at h
    cases h
theorem not_less_le (a b : List UInt8) (h : ¬ Op.bytesLess a b = true) : Op.bytesLess (bs b).toList (bs a).toList = true ∨ (Op.bytesLess (bs b).toList (bs a).toList = false ∧ ((bs b).toList == (bs a).toList) = true) := by
  rw [toList_bs, toList_bs]
  cases c : Op.bytesLess b a
  · right
    have := bl_tri b a c (by simpa using h)
    subst this
    exact ⟨rfl, by simp⟩
  · exact Or.inl rfl
set_option maxHeartbeats 2000000 in
set_option maxRecDepth 100000 in
theorem qents_any (es : Nat → Ent) (v : Value) (n : Nat) (w : World) (hR : Row w v 34 (ec es) n) (hn : n ≤ 140737488355328) (hs : ∀ i, i < n → (es i).name.length ≤ 281474976710656) :
    Calls Tryz.prog 96 #[v] w fun e w' => e = .returned (.bool (decide (entsOk es n))) ∧ Below w.heap.size w w' := by
  obtain ⟨ad, cap, rfl, ha⟩ := row_addr hR
  have HA := Lib.hid ha
  have HS := Lib.hid hs
  clear ha hs hR
  by_cases h32 : 32 < n
  · have e : decide (entsOk es n) = false := decide_eq_false fun h => by have := h.1; omega
    have t1 : (32 : Int) < (n : Int) := by omega
    rw [e]
    clear h32 e
    go_enter Tryz.func96, Tryz.ntmps96
    go_wp2
    go_ret
    exact ⟨rfl, Below.refl _ _⟩
  · have t1 : (n : Int) ≤ 32 := by omega
    have H32 : Hid (n ≤ 32) := by show n ≤ 32; omega
    have bad : Hid (∀ k, k < n → ¬ (nameOk (es k).name ∧ kindOk (es k).kind ∧ (0 < k → Op.bytesLess (es (k - 1)).name (es k).name = true)) → decide (entsOk es n) = false) := fun k hk h => decide_eq_false fun h2 => h (((entsOk_iff es n).1 h2).2 k hk)
    clear h32
    go_enter Tryz.func96, Tryz.ntmps96
    go_wp2
    go_loopw [3] (fun i wr => ∃ k : Nat, k ≤ n ∧ i = .int .i64 k ∧ Hid (okE es k) ∧ Hid (Below w.heap.size w wr)) (fun i _ => n - (intOf i).toNat)
    case atStart => exact ⟨0, by omega, rfl, okE_zero es, Below.refl _ _⟩
    case round =>
      obtain ⟨k, hk, rfl, hO, hL⟩ := hrel
      by_cases hlt : k < n
      · obtain ⟨b, o, rfl, hb, hc0⟩ := HA.out (by omega)
        have HC1 : Hid (At wr b o (n * 34) (ec es)) := hc0.below hL.out hb
        have c0 : wr.cell? ⟨b, o + k * 34, none⟩ = some (.string (bs (es k).name)) := (HC1.out.ent k hlt) 0 (by omega)
        have c1 : wr.cell? ⟨b, o + k * 34 + 1, none⟩ = some (.int .i64 (es k).kind) := (HC1.out.ent k hlt) 1 (by omega)
        have hz := HS.out k hlt
        have zk : (0 : Int) ≤ (k : Int) := by omega
        have yk : (k : Int) < (n : Int) := by omega
        have BAD := Lib.hid (bad.out k hlt)
        have HLT := Lib.hid hlt
        have N := oname_any (es k).name wr hz
        have N := qname_any (es k).name wr hz
        have hnm := nmB_iff (es k).name
        clear hz hc0 hb
        by_cases hN : nmB (es k).name = true
        · rw [hN] at N
          have HN := Lib.hid (hnm.1 hN)
          have hlen : (bs (es k).name).size ≤ 32 := by rw [bs_size]; exact HN.out.2.1
          clear hN hnm
          by_cases hK1 : (es k).kind < 1
          · have E := Lib.hid (BAD.out fun h => by rcases h.2.1 with h | h <;> omega)
            go_wp2_with fail
            refine N.mono ?_
            rintro e w3 ⟨rfl, rfl⟩
            go_wp2
            go_ret
            rw [E.out]
            exact ⟨rfl, hL.out⟩
          · have d1 : decide ((es k).kind < 1) = false := decide_eq_false hK1
            by_cases hK2 : 2 < (es k).kind
            · have E := Lib.hid (BAD.out fun h => by rcases h.2.1 with h | h <;> omega)
              clear hK1
              go_wp2_with fail
              refine N.mono ?_
              rintro e w3 ⟨rfl, rfl⟩
              go_wp2
              go_ret
              rw [E.out]
              exact ⟨rfl, hL.out⟩
            · have d2 : decide (2 < (es k).kind) = false := decide_eq_false hK2
              have HK : Hid (kindOk (es k).kind) := by show (es k).kind = 1 ∨ (es k).kind = 2; omega
              clear hK1 hK2
              have ways : k = 0 ∨ ∃ m, k = m + 1 := by rcases k with _ | m; exact Or.inl rfl; exact Or.inr ⟨m, rfl⟩
              rcases ways with rfl | ⟨m, rfl⟩
              · have O2 := Lib.hid (okE_succ hO.out HN.out HK.out fun h => absurd h (by omega))
                simp only [Nat.zero_mul, Nat.add_zero] at c0 c1
                go_wp2_with fail
                refine N.mono ?_
                rintro e w3 ⟨rfl, rfl⟩
                go_wp2
                go_quiet (fail)
                go_wp2
                go_roundw
                case rel => exact ⟨1, HLT.out, by go_num, O2, below_drewN hL.out _⟩
                case measure => simp [intOf]; have := HLT.out; omega
              · have cm : wr.cell? ⟨b, o + m * 34, none⟩ = some (.string (bs (es m).name)) := (HC1.out.ent m (by omega)) 0 (by omega)
                have zm : (0 : Int) ≤ (m : Int) := by omega
                have ym : (m : Int) < (n : Int) := by omega
                have wm : IntKind.i64.wrap (m : Int) = (m : Int) := IntWalk.i64_in _ (by omega)
                have wm2 : IntKind.i64.wrap ((m : Int) + 1 - 1) = (m : Int) := by rw [show (m : Int) + 1 - 1 = (m : Int) by omega]; exact wm
                by_cases hl : Op.bytesLess (es m).name (es (m + 1)).name = true
                · have O2 := Lib.hid (okE_succ hO.out HN.out HK.out fun _ => hl)
                  obtain ⟨bl1, bl2⟩ := less_le _ _ hl
                  clear hl
                  go_wp2_with fail
                  refine N.mono ?_
                  rintro e w3 ⟨rfl, rfl⟩
                  go_wp2
                  go_quiet (fail)
                  go_wp2
                  go_roundw
                  case rel => exact ⟨m + 1 + 1, HLT.out, by go_num, O2, below_drewN hL.out _⟩
                  case measure => simp [intOf]; have := HLT.out; omega
                · have E := Lib.hid (BAD.out fun h => hl (h.2.2 (by omega)))
                  have bl := not_less_le _ _ hl
                  clear hl
                  rcases bl with bl1 | ⟨bl1, bl2⟩
                  all_goals (go_wp2_with fail; refine N.mono ?_; rintro e w3 ⟨rfl, rfl⟩; go_wp2; go_quiet (fail); go_wp2)
                  all_goals go_ret
                  all_goals rw [E.out]
                  all_goals exact ⟨rfl, below_drewN hL.out _⟩
        · have hN2 : nmB (es k).name = false := by simpa using hN
          rw [hN2] at N
          have E := Lib.hid (BAD.out fun h => hN (hnm.2 h.1))
          clear hN hN2 hnm
          go_wp2_with fail
          refine N.mono ?_
          rintro e w3 ⟨rfl, rfl⟩
          go_wp2
          go_ret
          rw [E.out]
          exact ⟨rfl, hL.out⟩
      · have ek : k = n := by omega
        subst ek
        have E := Lib.hid (decide_eq_true ((entsOk_iff es k).2 ⟨H32.out, hO.out⟩))
        have yk : (k : Int) ≤ (k : Int) := by omega
        clear hlt
        go_wp2
        go_ret
        rw [E.out]
        exact ⟨rfl, hL.out⟩
end Go.Proofs.YtnmjcpoobabjgaaGreatDoor
/- Contracts of the library, laid at this program. -/
namespace Go.Proofs.YtnmjcpoobabjgaaGreatDoor
open Go.Shelf
def containsI_ren : Go.Shelf.Ren := ⟨fun | 7 => 140 | 6 => 150 | n => n, fun | 22 => 30 | 24 => 37 | 4 => 4 | 0 => 0 | 3 => 3 | n => n, fun | n => n⟩
theorem containsI : Go.Proofs.SlLaysQ.n7 Tryz.prog containsI_ren := {
  mixed := by kernel_rfl
  f6 := ⟨Tryz.f150.name, by decide, Tryz.func150.trans (congrArg some (by kernel_rfl))⟩
  f7 := ⟨Tryz.f140.name, by decide, Tryz.func140.trans (congrArg some (by kernel_rfl))⟩
  t0 := Tryz.underlying0
  a0 := Tryz.isAgg0
  z0 := Tryz.sizeOf0
  v0 := Tryz.zeroValue0
  t3 := Tryz.underlying3
  a3 := Tryz.isAgg3
  z3 := Tryz.sizeOf3
  v3 := Tryz.zeroValue3
  t4 := Tryz.underlying4
  a4 := Tryz.isAgg4
  z4 := Tryz.sizeOf4
  v4 := Tryz.zeroValue4
  t22 := Tryz.underlying30
  a22 := Tryz.isAgg30
  z22 := Tryz.sizeOf30
  v22 := Tryz.zeroValue30 }
def cloneP_ren : Go.Shelf.Ren := ⟨fun | 41 => 42 | n => n, fun | 22 => 22 | 23 => 60 | 4 => 4 | n => n, fun | n => n⟩
theorem cloneP : Go.Proofs.SlLaysE0.n41 Tryz.prog cloneP_ren := {
  mixed := by kernel_rfl
  f41 := ⟨Tryz.f42.name, by decide, Tryz.func42.trans (congrArg some (by kernel_rfl))⟩
  t4 := Tryz.underlying4
  a4 := Tryz.isAgg4
  z4 := Tryz.sizeOf4
  v4 := Tryz.zeroValue4
  t22 := Tryz.underlying22
  a22 := Tryz.isAgg22
  z22 := Tryz.sizeOf22
  v22 := Tryz.zeroValue22 }
end Go.Proofs.YtnmjcpoobabjgaaGreatDoor
/- Whether a commit may be: the program's answer, and the reference's. -/
namespace Go.Proofs.YtnmjcpoobabjgaaGreatDoor
open Go.RowKit Classical
theorem id_toArray (f : Nat → UInt8) : ((arr 32 (bv f)).toList).toArray = arr 32 (bv f) := Array.toArray_toList
theorem eqlId (f g : Nat → UInt8) (w : World) : (binOp .eql 37 (.agg (arr 32 (bv f))) (.agg (arr 32 (bv g)))).run Tryz.prog w = .ok (.bool (decide (same32 f g))) w := by
  rw [run_eql_arr8 w 37 5 32 f g ty30 t5 (by kernel_rfl)]
  congr 3
theorem neqId (f g : Nat → UInt8) (w : World) : (binOp .neq 37 (.agg (arr 32 (bv f))) (.agg (arr 32 (bv g)))).run Tryz.prog w = .ok (.bool (!decide (same32 f g))) w := by
  rw [run_neq_arr8 w 37 5 32 f g ty30 t5 (by kernel_rfl)]
  congr 4
/- is an id among the first n? -/
def among (p : Nat → Nat → UInt8) (n : Nat) (f : Nat → UInt8) : Prop := ∃ i, i < n ∧ same32 (p i) f
theorem cont_any (p : Nat → Nat → UInt8) (f : Nat → UInt8) (b o n c : Nat) (w : World) (hn : n ≤ 9223372036854775807) (hA : At w b o (n * 32) (pc p)) :
    Calls Tryz.prog 140 #[.slice (some ⟨b, o, none⟩) n c, .agg (arr 32 (bv f))] w fun e w' => e = .returned (.bool (decide (among p n f))) ∧ Below w.heap.size w w' := by
  have h := AnyQ.slices_Contains containsI 32 Tryz.isAgg37 Tryz.sizeOf37 (fun f : Nat → UInt8 => (arr 32 (bv f)).toList) (fun x => by rw [Array.length_toList, arr_size]) (fun x y => decide (same32 y x))
    ⟨fun x y w => by
      show (binOp .eql 37 (.agg (arr 32 (bv x)).toList.toArray) (.agg (arr 32 (bv y)).toList.toArray)).run Tryz.prog w = _
      rw [id_toArray, id_toArray, eqlId]
      rw [show decide (same32 x y) = decide (same32 y x) from decide_eq_decide.2 ⟨fun h i hi => (h i hi).symm, fun h i hi => (h i hi).symm⟩], GuardAt.agg _ (by kernel_rfl)⟩
    b o n c ((List.range n).map p) f w (by simp) hn (fun j hj i v hv => by
      have hj2 : j < n := by simpa using hj
      have e : ((List.range n).map p)[j]! = p j := by simp [hj2]
      rw [e] at hv
      rw [(hA.idk j hj2).range i v hv])
  rw [id_toArray] at h
  refine h.mono ?_
  rintro e w' ⟨h1, h2⟩
  refine ⟨?_, h2⟩
  rw [h1]
  congr 2
  apply Bool.eq_iff_iff.2
  rw [List.any_eq_true, decide_eq_true_iff]
  unfold among
  rw [List.take_of_length_le (by simp)]
  constructor
  · rintro ⟨x, hx, h⟩
    obtain ⟨i, hi, rfl⟩ := List.mem_map.1 hx
    exact ⟨i, List.mem_range.1 hi, of_decide_eq_true h⟩
  · rintro ⟨i, hi, h⟩
    exact ⟨p i, List.mem_map.2 ⟨i, List.mem_range.2 hi, rfl⟩, decide_eq_true h⟩
/- the first k parents are all unlike -/
def okC (p : Nat → Nat → UInt8) (k : Nat) : Prop := ∀ i j, i < j → j < k → ¬ same32 (p i) (p j)
theorem okC_zero (p : Nat → Nat → UInt8) : okC p 0 := fun i j _ h => absurd h (by omega)
theorem okC_succ {p : Nat → Nat → UInt8} {k : Nat} (h : okC p k) (h2 : ¬ among p k (p k)) : okC p (k + 1) := by
  intro i j hij hj
  by_cases c : j < k
  · exact h i j hij c
  · have e : j = k := by omega
    subst e
    exact fun h3 => h2 ⟨i, hij, h3⟩
theorem okC_not {p : Nat → Nat → UInt8} {k n : Nat} (hk : k < n) (h2 : among p k (p k)) : ¬ okC p n := by
  obtain ⟨i, hi, h⟩ := h2
  exact fun h3 => h3 i k hi hk h
end Go.Proofs.YtnmjcpoobabjgaaGreatDoor
/- Whether a commit may be: the walks. -/
namespace Go.Proofs.YtnmjcpoobabjgaaGreatDoor
open Go.RowKit Classical
set_option maxHeartbeats 2000000 in
set_option maxRecDepth 100000 in
theorem ocom_any (t : Nat → UInt8) (p : Nat → Nat → UInt8) (n : Nat) (s : List UInt8) (v : Value) (w : World) (hR : Row w v 32 (pc p) n) (hn : n ≤ 140737488355328) :
    Calls Tryz.prog 127 #[.agg (arr 34 (cv t v s))] w fun e w' => e = .returned (.bool (decide (comOk ⟨t, n, p, s⟩))) ∧ Below w.heap.size w w' := by
  obtain ⟨ad, cap, rfl, ha⟩ := row_addr hR
  have HA := Lib.hid ha
  have HCAP := Lib.hid (fun h => row_cap hR h)
  have hz := bs_size s
  have B0 : Blk (w.alloc (.cells (arr 34 (cv t (.slice ad n cap) s)) 134)) w.heap.size 134 34 (cv t (.slice ad n cap) s) := Blk.newAt _ (heap_alloc_new _ _) rfl
  have L0 : Hid (Below w.heap.size w (w.alloc (.cells (arr 34 (cv t (.slice ad n cap) s)) 134))) := (Below.refl _ _).alloc (Nat.le_refl _) _
  clear ha hR
  go_enter Tryz.func127, Tryz.ntmps127
  go_upto_region 1 with fail
  change Code.wp _ _ _ _ (w.alloc (.cells (arr 34 (cv t (.slice ad n cap) s)) 134))
  have HA1 : Hid (0 < n → ∃ b o, ad = some ⟨b, o, none⟩ ∧ b < (w.alloc (.cells (arr 34 (cv t (.slice ad n cap) s)) 134)).heap.size ∧ At (w.alloc (.cells (arr 34 (cv t (.slice ad n cap) s)) 134)) b o (n * 32) (pc p)) := fun h0 => by
    obtain ⟨b, o, h1, h2, h3⟩ := HA.out h0
    exact ⟨b, o, h1, Nat.lt_of_lt_of_le h2 L0.out.size, h3.below L0.out h2⟩
  clear HA
  generalize w.alloc (.cells (arr 34 (cv t (.slice ad n cap) s)) 134) = w1 at B0 L0 HA1 ⊢
  generalize w.heap.size = zb at B0 ⊢
  have c32 : w1.cell? ⟨zb, 32, none⟩ = some (.slice ad n cap) := B0.cell 32 (by omega)
  have c33 : w1.cell? ⟨zb, 33, none⟩ = some (.string (bs s)) := B0.cell 33 (by omega)
  have hzb : Hid (zb < w1.heap.size) := B0.lt
  generalize bs s = sb at hz c33
  clear B0
  by_cases h4 : 4 < n
  · have E := Lib.hid (decide_eq_false (p := comOk ⟨t, n, p, s⟩) fun h => by have := h.1; dsimp only at this; omega)
    have t1 : (4 : Int) < (n : Int) := by omega
    clear h4
    go_wp2
    go_ret
    rw [E.out]
    exact ⟨rfl, L0.out⟩
  · have t1 : decide ((4 : Int) < (n : Int)) = false := by simp; omega
    by_cases h64 : 64 < s.length
    · have E := Lib.hid (decide_eq_false (p := comOk ⟨t, n, p, s⟩) fun h => by have := h.2.1; dsimp only at this; omega)
      have t2 : (64 : Int) < (sb.size : Int) := by omega
      clear h4 h64
      go_wp2
      go_ret
      rw [E.out]
      exact ⟨rfl, L0.out⟩
    · have t2 : decide ((64 : Int) < (sb.size : Int)) = false := by simp; omega
      have T2 : Hid ((okC p n ↔ comOk ⟨t, n, p, s⟩) ∧ n ≤ 4) := ⟨⟨fun h => ⟨by show n ≤ 4; omega, by show s.length ≤ 64; omega, h⟩, fun h => h.2.2⟩, by omega⟩
      clear h4 h64 hz
      go_wp2
      go_loopw [18] (fun i wr => ∃ k : Nat, k ≤ n ∧ i = .int .i64 k ∧ Hid (okC p k) ∧ Hid (Below w1.heap.size w1 wr)) (fun i _ => n - (intOf i).toNat)
      case atStart => exact ⟨0, by omega, rfl, okC_zero p, Below.refl _ _⟩
      case round =>
        obtain ⟨k, hk, rfl, hO, hL⟩ := hrel
        have c32r : wr.cell? ⟨zb, 32, none⟩ = some (.slice ad n cap) := by rw [hL.out.cell hzb.out]; exact c32
        by_cases hlt : k < n
        · obtain ⟨b, o, rfl, hb, hc0⟩ := HA1.out (by omega)
          have HC1 : Hid (At wr b o (n * 32) (pc p)) := hc0.below hL.out hb
          have ck := HC1.out.idk k hlt
          have zk : (0 : Int) ≤ (k : Int) := by omega
          have yk : (k : Int) < (n : Int) := by omega
          have HLT := Lib.hid hlt
          have HB : Hid (b < wr.heap.size) := Nat.lt_of_lt_of_le hb hL.out.size
          clear hc0 hb
          go_upto_region 6 with (first | (refine wpList_val rfl _ _ (ex_load 37 (.tmp 21) rfl b (o + k * 32) 32 (bv (p k)) rfl Tryz.underlying37 rfl sz30 ck) ?_) | (refine wpList_store_blk rfl 37 (.tmp 4) (.tmp 22) rfl wr.heap.size 32 (bv (p k)) (bv fun _ => 0) rfl rfl 37 (Blk.newAt _ (heap_alloc_new _ _) rfl) sz30 (fun _ _ => rfl) ?_))
          rw [World.setRow_alloc_new]
          have B1 : Blk (wr.alloc (.cells (arr 32 (bv (p k))) 37)) wr.heap.size 37 32 (bv (p k)) := Blk.newAt _ (heap_alloc_new _ _) rfl
          have A1 : Hid (Below wr.heap.size wr (wr.alloc (.cells (arr 32 (bv (p k))) 37))) := (Below.refl _ _).alloc (Nat.le_refl _) _
          have L1 : Hid (Below w1.heap.size w1 (wr.alloc (.cells (arr 32 (bv (p k))) 37))) := hL.out.trans (A1.out.mono hL.out.size)
          have c32s : (wr.alloc (.cells (arr 32 (bv (p k))) 37)).cell? ⟨zb, 32, none⟩ = some (.slice (some ⟨b, o, none⟩) n cap) := by rw [L1.out.cell hzb.out]; exact c32
          have HC2 : Hid (At (wr.alloc (.cells (arr 32 (bv (p k))) 37)) b o (n * 32) (pc p)) := HC1.out.below A1.out HB.out
          clear ck HC1 A1
          generalize wr.alloc (.cells (arr 32 (bv (p k))) 37) = w2 at B1 L1 HC2 c32s ⊢
          generalize wr.heap.size = ib at B1 HB ⊢
          have S0 : w2.drew.cell? ⟨zb, 32, none⟩ = some (.slice (some ⟨b, o, none⟩) n cap) ∧ At w2.drew ib 0 32 (bv (p k)) := ⟨c32s, B1.at0⟩
          have CC := Lib.hid (fun (W : World) (h : At W b o (n * 32) (pc p)) => cont_any p (p k) b o k cap W (by omega) (fun j hj => h j (by omega)))
          have wk : IntKind.i64.wrap (k : Int) = (k : Int) := IntWalk.i64_in _ (by omega)
          have rk : (k : Int) ≤ (cap : Int) := by have := HCAP.out (by omega); omega
          clear B1 c32r
          refine wp_region_noPanic ?_
          refine wp_region_held_drew (S := (fun w' => w'.cell? ⟨zb, 32, none⟩ = some (.slice (some ⟨b, o, none⟩) n cap) ∧ At w' ib 0 32 (bv (p k)))) (by kernel_rfl) S0 (fun hHeld => ?_)
          refine wpAnyH_take (i := 0) (oi := ⟨some 23, .fieldAddr 134 (.tmp 1) 1, 0, "body.go:95", #[], none⟩) (v := ?_) rfl (by kernel_rfl) (by kernel_rfl) (by kernel_rfl) (fun _ _ _ h => h) (Or.inl ⟨by kernel_rfl, ?_⟩) (by assumption) ?_
          rotate_left 1
          · (intro wS hSw; (try dsimp only at hSw); go_simp; try with_reducible rfl)
          try simp only [Act.put, tA, tZ, tS]
          refine wpAnyH_take (i := 1) (oi := ⟨some 24, .load 30 (.tmp 23), 30, "body.go:95", #[⟨0, .data⟩], none⟩) (v := ?_) rfl (by kernel_rfl) (by kernel_rfl) (by kernel_rfl) (fun _ _ _ h => h) (Or.inl ⟨by kernel_rfl, ?_⟩) (by assumption) ?_
          rotate_left 1
          · (intro wS hSw; (try dsimp only at hSw); go_simp; try with_reducible rfl)
          try simp only [Act.put, tA, tZ, tS]
          refine wpAnyH_take (i := 2) (oi := ⟨some 25, .move (.tmp 3), 3, "body.go:95", #[], none⟩) (v := ?_) rfl (by kernel_rfl) (by kernel_rfl) (by kernel_rfl) (fun _ _ _ h => h) (Or.inl ⟨by kernel_rfl, ?_⟩) (by assumption) ?_
          rotate_left 1
          · (intro wS hSw; (try dsimp only at hSw); go_simp; try with_reducible rfl)
          try simp only [Act.put, tA, tZ, tS]
          refine wpAnyH_take (i := 3) (oi := ⟨some 26, .slice 30 (.tmp 24) none (some (.tmp 25)) none, 30, "body.go:95", #[⟨1, .data⟩, ⟨2, .data⟩], none⟩) (v := ?_) rfl (by kernel_rfl) (by kernel_rfl) (by kernel_rfl) (fun _ _ _ h => h) (Or.inl ⟨by kernel_rfl, ?_⟩) (by assumption) ?_
          rotate_left 1
          · (intro wS hSw; (try dsimp only at hSw); go_simp; try with_reducible rfl)
          try simp only [Act.put, tA, tZ, tS]
          refine wpAnyH_take (i := 4) (oi := ⟨some 27, .load 37 (.tmp 4), 37, "body.go:95", #[], none⟩) rfl (by kernel_rfl) (by kernel_rfl) (by kernel_rfl) (fun _ _ _ h => h) (Or.inl ⟨by kernel_rfl, fun wS hSw => ex_load 37 (.tmp 4) rfl ib 0 32 (bv (p k)) rfl Tryz.underlying37 rfl sz30 hSw.2⟩) (by assumption) ?_
          try simp only [Act.put, tA, tZ, tS]
          have HW : Hid (w2.heap.size = w2.drew.heap.size ∧ zb < w2.heap.size ∧ ib < w2.heap.size) := ⟨rfl, Nat.lt_of_lt_of_le hzb.out L1.out.size, S0.2.lt (by omega)⟩
          refine wpAnyH_ready (rs := [5]) (by kernel_rfl) (by simp) ?_
          refine AllReadyH.cons (o := ⟨some 28, .call { callee := .value (Operand.func 140), args := #[.tmp 26, .tmp 27], argTypes := #[30, 37] }, 4, "body.go:95", #[⟨3, .data⟩, ⟨4, .data⟩], none⟩) rfl (fun K hK => ?_) AllReadyH.nil
          go_simp
          refine (CC.out w2.drew HC2.out).mono ?_
          rintro e w3 ⟨rfl, hB3⟩
          have Sa5 := And.intro ((hB3.cell HW.out.2.1).trans S0.1) (S0.2.below hB3 HW.out.2.2)
          refine hK.out _ _ Sa5 (fun hHeld5 => ?_)
          clear hK K
          try simp only [Act.put, tA, tZ, tS]
          refine wpAnyH_done (by kernel_rfl) ?_ _
          refine NoPanic.normal ?_
          have L3 : Hid (Below w1.heap.size w1 w3) := L1.out.drew.trans ((hB3.mono L1.out.size : Below w1.heap.size w2.drew w3))
          clear hHeld hHeld5 hB3 Sa5 S0 c32s wk rk
          by_cases ham : among p k (p k)
          · rw [decide_eq_true ham]
            have E := Lib.hid (decide_eq_false (p := comOk ⟨t, n, p, s⟩) fun h => okC_not HLT.out ham (T2.out.1.2 h))
            clear ham
            go_wp2
            go_ret
            rw [E.out]
            exact ⟨rfl, L0.out.trans (L3.out.mono L0.out.size)⟩
          · rw [decide_eq_false ham]
            have O2 := Lib.hid (okC_succ hO.out ham)
            clear ham
            go_wp2
            go_roundw
            case rel => exact ⟨k + 1, HLT.out, by go_num, O2, L3⟩
            case measure => simp [intOf]; omega
        · have ek : k = n := by omega
          subst ek
          have E := Lib.hid (decide_eq_true (T2.out.1.1 hO.out))
          have yk : (k : Int) ≤ (k : Int) := by omega
          clear hlt
          go_wp2
          go_ret
          rw [E.out]
          exact ⟨rfl, L0.out.trans (hL.out.mono L0.out.size)⟩
end Go.Proofs.YtnmjcpoobabjgaaGreatDoor
