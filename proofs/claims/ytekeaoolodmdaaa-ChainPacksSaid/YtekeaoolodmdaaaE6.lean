import Derived.Test.YtekeaoolodmdaaaE2
import Derived.Test.YtekeaoolodmdaaaV4
import Derived.Deep.MidRow
import Derived.Deep.Cut
import Derived.Deep.AppendLies
import Derived.Maps.AppendAt
/- Rows of pieces. -/
namespace Go.Proofs.Ytekeaoolodmdaaa
set_option maxRecDepth 100000
open Go.RowKit
/- n cells from a place on, as a function tells them -/
def At (w : World) (b p n : Nat) (f : Nat → Value) : Prop := ∀ j, j < n → w.cell? ⟨b, p + j, none⟩ = some (f j)
theorem At.range {w : World} {b p n : Nat} {f : Nat → Value} (h : At w b p n f) : w.rangeAt b p (arr n f).toList := by
  intro j v hv
  have hj : j < n := by
    have := (List.getElem?_eq_some_iff.1 hv).1
    rw [Array.length_toList, arr_size] at this
    exact this
  rw [Array.getElem?_toList, arr_get _ _ _ hj] at hv
  cases hv
  exact h j hj
theorem At.lt {w : World} {b p n : Nat} {f : Nat → Value} (h : At w b p n f) (hn : 0 < n) : b < w.heap.size := block_lt_of_cell (h 0 hn)
theorem At.keep {K : Nat → Prop} {w w' : World} {b p n : Nat} {f : Nat → Value} (h : At w b p n f) (hk : Keep K w w') (hb : K b) : At w' b p n f := fun j hj => hk.cell hb (h j hj)
theorem At.below {B : Nat} {w w' : World} {b p n : Nat} {f : Nat → Value} (h : At w b p n f) (hb : Below B w w') (hl : b < B) : At w' b p n f := fun j hj => by rw [hb.cell hl]; exact h j hj
theorem At.part {w : World} {b p n : Nat} {f : Nat → Value} (h : At w b p n f) (q m : Nat) (g : Nat → Value) (hm : q + m ≤ n) (hg : ∀ j, j < m → f (q + j) = g j) : At w b (p + q) m g := fun j hj => by
  rw [Nat.add_assoc, h (q + j) (by omega), hg j hj]
theorem Blk.at0 {w : World} {b E n f} (h : Blk w b E n f) : At w b 0 n f := fun j hj => by rw [Nat.zero_add]; exact h.cell j hj
section
variable {P : Program}
theorem wpList_val {ops : Array Oper} {rest : List Oper} {o : Oper} {a : Act} {w : World} {Q : Exit → Act → World → Prop} (hg : o.guard = none) (v : Value) (w' : World) (hr : (execOp a.eval o).run P w = .ok (.value v) w')
    (h : wpList P ops Q rest (a.put o.dst v) w') : wpList P ops Q (o :: rest) a w :=
  wpList_plain hg fun K hK => by unfold Oper.wp; rw [hr]; exact hK _ _ h
theorem wpList_unit {ops : Array Oper} {rest : List Oper} {o : Oper} {a : Act} {w : World} {Q : Exit → Act → World → Prop} (hg : o.guard = none) (w' : World) (hr : (execOp a.eval o).run P w = .ok .skip w')
    (h : wpList P ops Q rest (a.put o.dst undef) w') : wpList P ops Q (o :: rest) a w :=
  wpList_plain hg fun K hK => by unfold Oper.wp; rw [hr]; exact hK _ _ h
/- the same as steps of a region that draws -/
theorem step_val {ops : Array Oper} {o : Oper} {a : Act} {w : World} {K : Act → World → Prop} {Q : Exit → Act → World → Prop} {E : Prop} (hg : o.guard = none) (v : Value) (w' : World) (hr : (execOp a.eval o).run P w = .ok (.value v) w')
    (hK : K (a.put o.dst v) w') : if Region.wanted o (yielded ops a.tmps) = true then Oper.wp P o a w K Q else E := by
  have hw : Region.wanted o (yielded ops a.tmps) = true := by simp [Region.wanted, hg]
  rw [if_pos hw]
  unfold Oper.wp
  rw [hr]
  exact hK
theorem ex_load {o : Oper} {a : Act} {w : World} (ty : TypeId) (x : Operand) (ho : o.op = .load ty x) (b p n : Nat) (f : Nat → Value) (hx : a.eval x = .pointer (some ⟨b, p, none⟩)) {d : TypeDesc}
    (hu : P.underlying ty = some d) (hd : d.isRow = true) (hi : (P.info? ty).map (·.size) = some n) (hc : At w b p n f) : (execOp a.eval o).run P w = .ok (.value (.agg (arr n f))) w := by
  have hr := run_loadAt_mid w b p ty (arr n f).toList d hc.range hu hd (by rw [Array.length_toList, arr_size]; exact hi)
  rw [Array.toArray_toList] at hr
  unfold execOp
  simp only [ho, hx, Sem.run_bind, hr, Result.andThen_ok]
  rfl
/- field k of a struct lies q cells behind its beginning -/
def HasField (P : Program) (ty : TypeId) (k q : Nat) : Prop := ∃ fs f s, P.underlying ty = some (.struct fs) ∧ fs[k]? = some f ∧ f.offset = q ∧ (P.info? f.type).map (·.size) = some (s + 1)
theorem ex_field {o : Oper} {a : Act} {w : World} {ty : TypeId} {k q : Nat} (hF : HasField P ty k q) (x : Operand) (ho : o.op = .fieldAddr ty x k) (b p : Nat) (hx : a.eval x = .pointer (some ⟨b, p, none⟩)) :
    (execOp a.eval o).run P w = .ok (.value (.pointer (some ⟨b, p + q, none⟩))) w := by
  obtain ⟨fs, f, s, hu, hf, rfl, hs⟩ := hF
  cases hq : P.info? f.type with
  | none => rw [hq] at hs; simp at hs
  | some i =>
    have h2 : i.size = s + 1 := by rw [hq] at hs; simpa using hs
    unfold execOp
    simp [ho, hx, Instr.fieldAt, run_underlying hu, hf, Instr.sureAddr, fieldPlace, Addr.add_mid, sizeOf, typeInfo, hq, h2]
theorem ex_index {o : Oper} {a : Act} {w : World} (ty e : TypeId) (x y : Operand) (ho : o.op = .indexAddr ty x y) (b p k len cap m : Nat) (hx : a.eval x = .slice (some ⟨b, p, none⟩) len cap) (hy : a.eval y = .int .i64 k)
    (hu : P.underlying ty = some (.slice e)) (hi : (P.info? e).map (·.size) = some m) (hk : k < len) : (execOp a.eval o).run P w = .ok (.value (.pointer (some ⟨b, p + k * m, none⟩))) w := by
  cases hq : P.info? e with
  | none => rw [hq] at hi; simp at hi
  | some i =>
    have hs : i.size = m := by rw [hq] at hi; simpa using hi
    have hk2 : (k : Int) < (len : Int) := by omega
    have h3 : (Instr.indexAt ty (.slice (some ⟨b, p, none⟩) len cap) (.int .i64 k)).run P w = .ok (.pointer (some ⟨b, p + k * m, none⟩)) w := by
      simp [Instr.indexAt, run_underlying hu, sizeOf, typeInfo, hq, hs, asIntOf, hk2, Addr.add_mid]
      intro h
      omega
    unfold execOp
    simp only [ho, hx, hy, Sem.run_bind, h3, Result.andThen_ok]
    rfl
theorem ex_store {o : Oper} {a : Act} {w : World} (ty : TypeId) (x y : Operand) (ho : o.op = .store ty x y) (b p n : Nat) (f : Nat → Value) (hx : a.eval x = .pointer (some ⟨b, p, none⟩)) (hy : a.eval y = .agg (arr n f))
    (ht : w.there b p n) (hi : (P.info? ty).map (·.size) = some n) (h1 : ∀ i, i < n → (f i).oneCell' = true) : (execOp a.eval o).run P w = .ok .skip (w.setCells b p (arr n f).toList) := by
  have hr := run_storeAt_mid (P := P) w b p ty (arr n f) (by rw [arr_size]; exact ht) (by rw [arr_size]; exact hi) (Array.all_eq_true_iff_forall_mem.2 (fun v hv => by
      unfold arr at hv
      rw [Array.mem_ofFn] at hv
      obtain ⟨i, rfl⟩ := hv
      exact h1 i i.isLt))
  unfold execOp
  simp only [ho, hx, hy, Sem.run_bind, hr, Result.andThen_ok]
  rfl
theorem ex_move {o : Oper} {a : Act} {w : World} (x : Operand) (ho : o.op = .move x) : (execOp a.eval o).run P w = .ok (.value (a.eval x)) w := by
  unfold execOp
  simp only [ho]
  rfl
theorem ex_assign {o : Oper} {a : Act} {w : World} (x : Operand) (ho : o.op = .assign x) : (execOp a.eval o).run P w = .ok (.value (a.eval x)) w := by
  unfold execOp
  simp only [ho]
  rfl
/- a slice of one element of m cells -/
theorem fill_one (m : Nat) (hm : 0 < m) (Z : Array Value) (f : Nat → Value) : Instr.fill (fun i => some (i * m, m)) (Array.map (fun x => Z[x % Z.size]!) (Array.range (1 * m))) [(0, .agg (arr m f))] = some (arr m f) := by
  have key : ∀ (l : List Value) (o : Nat) (cs : Array Value), o + l.length ≤ cs.size → ∀ i, ((l.zipIdx o).foldl (fun cs x => cs.setIfInBounds (0 + x.2) x.1) cs)[i]? = if o ≤ i ∧ i < o + l.length then l[i - o]? else cs[i]? := by
    intro l
    induction l with
    | nil => intro o cs _ i; rw [if_neg (by simp)]; rfl
    | cons v r ih =>
      intro o cs ho i
      rw [List.zipIdx_cons, List.foldl_cons, ih (o + 1) _ (by simp at ho ⊢; omega)]
      rw [List.length_cons] at ho ⊢
      by_cases c : i = o
      · subst c
        rw [if_neg (by omega), if_pos (by omega), Nat.sub_self]
        rw [Nat.zero_add, Array.getElem?_setIfInBounds_self_of_lt (by omega)]
        rfl
      · by_cases c2 : o + 1 ≤ i ∧ i < o + 1 + r.length
        · rw [if_pos c2, if_pos (by omega), show i - o = (i - (o + 1)) + 1 by omega]; rfl
        · rw [if_neg c2, if_neg (by omega), Array.getElem?_setIfInBounds, if_neg (by simp; omega)]
  have hs : (Array.map (fun x => Z[x % Z.size]!) (Array.range (1 * m))).size = m := by simp
  unfold Instr.fill
  simp only [Nat.zero_mul, Value.cells, arr_size, hs, Nat.zero_add]
  rw [if_neg (by simp)]
  unfold Instr.fill
  congr 1
  apply Array.ext_getElem?
  intro i
  rw [← Array.foldl_toList, Array.toList_zipIdx]
  have := key (arr m f).toList 0 (Array.map (fun x => Z[x % Z.size]!) (Array.range (1 * m))) (by rw [hs, Array.length_toList, arr_size]; omega) i
  simp only [Nat.zero_add] at this
  rw [this, Array.length_toList, arr_size]
  by_cases hi : i < m
  · rw [if_pos ⟨by omega, by omega⟩, Nat.sub_zero, Array.getElem?_toList]
  · rw [if_neg (by omega), Array.getElem?_eq_none (by rw [hs]; omega), Array.getElem?_eq_none (by rw [arr_size]; omega)]
theorem run_bslice (w : World) (t e : TypeId) (m : Nat) (f : Nat → Value) (z : Value) (ht : P.underlying t = some (.slice e)) (hi : (P.info? e).map (fun i => (i.zero, i.size)) = some (some z, m)) (hm : 0 < m) (hm2 : m < 1000) :
    (Instr.buildSlice t 1 #[(0, .agg (arr m f))]).run P w = .ok (.slice (some ⟨w.heap.size, 0, none⟩) 1 1) (w.alloc (.cells (arr m f) e)) := by
  have hf := fill_one m hm z.cells f
  have hmm : ¬ (16777216 < m) := by omega
  have hm0 : ¬ (m = 0) := by omega
  cases hq : P.info? e with
  | none => rw [hq] at hi; simp at hi
  | some i =>
    rw [hq] at hi
    simp only [Option.map_some, Option.some.injEq, Prod.mk.injEq] at hi
    obtain ⟨h1, h2⟩ := hi
    simp only [Nat.one_mul] at hf
    simp [Instr.buildSlice, run_underlying ht, sizeOf, typeInfo, hq, h2, zeroValue, h1, newRow, hmm, hm0]
    simp [hf]
theorem ex_bslice {o : Oper} {a : Act} {w : World} (t e : TypeId) (x : Operand) (ho : o.op = .buildSlice t 1 #[(0, x)]) (m : Nat) (f : Nat → Value) (hx : a.eval x = .agg (arr m f)) {z : Value} (ht : P.underlying t = some (.slice e)) (hi : (P.info? e).map (fun i => (i.zero, i.size)) = some (some z, m)) (hm : 0 < m) (hm2 : m < 1000) :
    (execOp a.eval o).run P w = .ok (.value (.slice (some ⟨w.heap.size, 0, none⟩) 1 1)) (w.alloc (.cells (arr m f) e)) := by
  have hr := run_bslice (P := P) w t e m f z ht hi hm hm2
  unfold execOp
  simp only [ho, List.map_toArray, List.map_cons, List.map_nil, hx, Sem.run_bind, hr, Result.andThen_ok]
  rfl
end
/- a slice of n elements of m cells each, which c tells -/
def Row (w : World) (v : Value) (m : Nat) (c : Nat → Value) (n : Nat) : Prop :=
  (∃ ad cap, v = .slice ad 0 cap ∧ n = 0) ∨ (∃ b o cap, v = .slice (some ⟨b, o, none⟩) n cap ∧ 0 < n ∧ n ≤ cap ∧ b < w.heap.size ∧ ∀ i, i < n * m → w.cell? ⟨b, o + i, none⟩ = some (c i))
theorem row_addr {w : World} {v : Value} {m : Nat} {c : Nat → Value} {n : Nat} (h : Row w v m c n) : ∃ ad cap, v = .slice ad n cap ∧ (0 < n → ∃ b o, ad = some ⟨b, o, none⟩ ∧ b < w.heap.size ∧ At w b o (n * m) c) := by
  rcases h with ⟨ad, cap, rfl, rfl⟩ | ⟨b, o, cap, rfl, h0, _, hb, hc⟩
  · exact ⟨ad, cap, rfl, fun h => absurd h (by omega)⟩
  · exact ⟨_, cap, rfl, fun _ => ⟨b, o, rfl, hb, hc⟩⟩
theorem row_cap {w : World} {ad : Option Addr} {m n cap : Nat} {c : Nat → Value} (h : Row w (.slice ad n cap) m c n) (h0 : 0 < n) : n ≤ cap := by
  rcases h with ⟨ad, cap, e, rfl⟩ | ⟨b, o, cap, e, _, h2, _⟩
  · omega
  · cases e; exact h2
theorem row_of {w : World} {ad : Option Addr} {m n cap : Nat} {c : Nat → Value} (hc : n ≤ cap) (h : 0 < n → ∃ b o, ad = some ⟨b, o, none⟩ ∧ b < w.heap.size ∧ At w b o (n * m) c) : Row w (.slice ad n cap) m c n := by
  by_cases hn : n = 0
  · subst hn; exact Or.inl ⟨_, _, rfl, rfl⟩
  · obtain ⟨b, o, rfl, h2, h3⟩ := h (by omega)
    exact Or.inr ⟨b, o, cap, rfl, by omega, hc, h2, h3⟩
theorem Row.keep {K : Nat → Prop} {W W' : World} {v : Value} {m : Nat} {c : Nat → Value} {n : Nat} (h : Row W v m c n) (hk : Keep K W W') (hK : ∀ g o l cap, v = .slice (some ⟨g, o, none⟩) l cap → K g) : Row W' v m c n := by
  rcases h with h | ⟨b, k, cap, h1, h2, h3, h4, h5⟩
  · exact Or.inl h
  · exact Or.inr ⟨b, k, cap, h1, h2, h3, Nat.lt_of_lt_of_le h4 hk.size, fun i hi => hk.cell (hK _ _ _ _ h1) (h5 i hi)⟩
theorem Row.below {W W' : World} {v : Value} {m : Nat} {c : Nat → Value} {n : Nat} (h : Row W v m c n) (hb : Below W.heap.size W W') : Row W' v m c n := h.keep (K := fun _ => True) (Keep.all hb) (fun _ _ _ _ _ => trivial)
theorem Row.congr {W : World} {v : Value} {m : Nat} {c d : Nat → Value} {n : Nat} (h : Row W v m c n) (e : ∀ i, i < n * m → c i = d i) : Row W v m d n := by
  rcases h with h | ⟨b, k, cap, h1, h2, h3, h4, h5⟩
  · exact Or.inl h
  · exact Or.inr ⟨b, k, cap, h1, h2, h3, h4, fun i hi => by rw [h5 i hi, e i hi]⟩
theorem Row.nil (w : World) (m : Nat) (c : Nat → Value) : Row w (.slice none 0 0) m c 0 := Or.inl ⟨_, _, rfl, rfl⟩
/- appends to a row of the call's own -/
theorem arr_add (a m : Nat) (c : Nat → Value) : (arr a c).toList ++ (arr m (fun j => c (a + j))).toList = (arr (a + m) c).toList := by
  apply List.ext_getElem?
  intro i
  by_cases h : i < a
  · rw [List.getElem?_append_left (by rw [Array.length_toList, arr_size]; exact h), Array.getElem?_toList, Array.getElem?_toList, arr_get _ _ _ h, arr_get _ _ _ (by omega)]
  · rw [List.getElem?_append_right (by rw [Array.length_toList, arr_size]; omega), Array.length_toList, arr_size, Array.getElem?_toList, Array.getElem?_toList]
    by_cases h2 : i < a + m
    · rw [arr_get _ _ _ (by omega), arr_get _ _ _ h2, show a + (i - a) = i by omega]
    · rw [Array.getElem?_eq_none (by rw [arr_size]; omega), Array.getElem?_eq_none (by rw [arr_size]; omega)]
theorem owns_keep {K : Nat → Prop} {w w' : World} {B e m : Nat} {v : Value} {n : Nat} {xs : List Value} (h : w.ownsRow B e m v n xs) (hk : Keep K w w') (hK : ∀ g, v.ownBlock = some g → K g) : w'.ownsRow B e m v n xs := by
  refine ⟨h.1, ?_⟩
  rcases h.2 with hn | ⟨g, cap, cur, rfl, hbg, hgg, rest⟩
  · exact .inl hn
  · exact .inr ⟨g, cap, cur, rfl, hbg, by rw [hk.block g (hK g rfl) (lt_of_block hgg)]; exact hgg, rest⟩
theorem owns_all {w w' : World} {B e m : Nat} {v : Value} {n : Nat} {xs : List Value} (h : w.ownsRow B e m v n xs) (hb : Below w.heap.size w w') : w'.ownsRow B e m v n xs := owns_keep h (K := fun _ => True) (Keep.all hb) fun _ _ => trivial
theorem owns_congr {w : World} {B e m : Nat} {v : Value} {n : Nat} {xs ys : List Value} (h : w.ownsRow B e m v n xs) (he : xs = ys) : w.ownsRow B e m v n ys := he ▸ h
theorem app_own {B : Nat} {w : World} {v : Value} {n m t e bytes : Nat} {z : Value} {c : Nat → Value} (ht : Try.prog.underlying t = some (.slice e)) (hi : (Try.prog.info? e).map (fun i => (i.zero, i.size, i.bytes)) = some (some z, m, bytes)) (hzs : z.cells.size = m) (hm : 0 < m) (hby : bytes ≤ 64) (A : Array Value) (hA : A = arr m (fun j => c (n * m + j))) (h1 : ∀ j, (c j).oneCell' = true)
    (ho : w.ownsRow B e m v n (arr (n * m) c).toList) (hB : B ≤ w.heap.size) (hn : n + 1 ≤ 100000) :
    ∃ g cap w', (Builtin.append_ #[t, t] t #[v, .slice (some ⟨w.heap.size, 0, none⟩) 1 1]).run Try.prog (w.alloc (.cells A e)) = .ok (.slice (some ⟨g, 0, none⟩) (n + 1) cap) w' ∧
      w'.ownsRow B e m (.slice (some ⟨g, 0, none⟩) (n + 1) cap) (n + 1) (arr ((n + 1) * m) c).toList ∧ Keep (fun k => v.ownBlock ≠ some k) w w' ∧ (v.ownBlock = some g ∨ g = w.heap.size + 1) := by
  obtain ⟨i0, hi0, hz0, hz1, hz2⟩ := info_parts hi
  obtain ⟨g, cap, w', hr, ho', hg, hat, hlt⟩ := run_append_lies (P := Try.prog) (w.alloc (.cells A e)) t t B e i0 z m bytes ht hi0 hz0 hz1 hz2 hzs hm v n _ (ho.alloc _) ⟨w.heap.size, 0, none⟩ 1 1 A.toList (by rw [hA, Array.length_toList, arr_size, Nat.one_mul])
    (World.news_of_block (heap_alloc_new _ _)) (by
      intro u hu
      rw [hA, Array.mem_toList_iff] at hu
      unfold arr at hu
      rw [Array.mem_ofFn] at hu
      obtain ⟨i, rfl⟩ := hu
      exact h1 _) (by decide) (by unfold maxLen; omega) (by
      have : (n + 1) * bytes ≤ 100000 * 64 := Nat.mul_le_mul hn hby
      omega) (by simp; omega) (w.heap.size + 1) (by simp)
  refine ⟨g, cap, w', hr, ?_, ?_, hat⟩
  · rw [hA, arr_add, ← Nat.succ_mul] at ho'
    exact ho'
  · exact ((Keep.refl _ w).alloc _).grown hg (fun k hk h => h hk)
/- a row of the call's own as a row -/
theorem owns_row {w : World} {B e m n : Nat} {v : Value} {c : Nat → Value} (h : w.ownsRow B e m v n (arr (n * m) c).toList) : Row w v m c n := by
  rcases h.2 with ⟨rfl, rfl⟩ | ⟨g, cap, cur, rfl, hb, hg, h2, h3, h4, h5⟩
  · exact Or.inl ⟨none, 0, rfl, rfl⟩
  · by_cases hn : n = 0
    · subst hn
      exact Or.inl ⟨_, cap, rfl, rfl⟩
    · refine Or.inr ⟨g, 0, cap, rfl, by omega, h2, lt_of_block hg, fun i hi => ?_⟩
      have e1 : (arr (n * m) c).toList[i]? = some (c i) := by rw [Array.getElem?_toList]; exact arr_get _ _ _ hi
      rw [← h5, List.getElem?_take, if_pos hi, Array.getElem?_toList] at e1
      rw [Nat.zero_add, cell_of_row _ _ _ _ _ _ hg]
      exact e1
/- a slice whose block, if any, is not below B -/
def Fresh (B : Nat) (v : Value) : Prop := ∀ g o n c, v = .slice (some ⟨g, o, none⟩) n c → B ≤ g
theorem owns_fresh {w : World} {B e m n : Nat} {v : Value} {xs : List Value} (h : w.ownsRow B e m v n xs) : Fresh B v := by
  rintro g o n c rfl
  exact (h.lt g rfl).1
theorem Fresh.nil (B : Nat) : Fresh B (.slice none 0 0) := fun g o n c h => by cases h
theorem alloc_below {w w' : World} {o : Obj} (h : Below (w.alloc o).heap.size (w.alloc o) w') : Below w.heap.size w w' := ((Below.refl w.heap.size w).alloc (Nat.le_refl _) o).trans (h.mono (by simp))
theorem own_lt {w : World} {B e m n g : Nat} {v : Value} {xs : List Value} (h : w.ownsRow B e m v n xs) (hg : v.ownBlock = some g) : B ≤ g ∧ g < w.heap.size := h.lt g hg
/- the cells of pieces -/
def zz : Pz := ⟨0, 0, []⟩
def zc (l : List Pz) (i : Nat) : Value := if i % 2 = 0 then cpv (l.getD (i / 2) zz) else .string (bs (l.getD (i / 2) zz).t)
theorem zc_0 (l : List Pz) (k : Nat) : zc l (k * 2) = cpv (l.getD k zz) := by
  unfold zc
  rw [if_pos (by omega), show k * 2 / 2 = k by omega]
theorem zc_1 (l : List Pz) (k : Nat) : zc l (k * 2 + 1) = .string (bs (l.getD k zz).t) := by
  unfold zc
  rw [if_neg (by omega), show (k * 2 + 1) / 2 = k by omega]
theorem zc_one (l : List Pz) (i : Nat) : (zc l i).oneCell' = true := by unfold zc; split <;> rfl
theorem zc_snoc (l : List Pz) (x : Pz) (i : Nat) (h : i < l.length * 2) : zc (l ++ [x]) i = zc l i := by
  unfold zc
  rw [List.getD_eq_getElem?_getD, List.getD_eq_getElem?_getD, List.getElem?_append_left (by omega)]
theorem zc_last (l : List Pz) (x : Pz) : #[cpv x, .string (bs x.t)] = arr 2 (fun j => zc (l ++ [x]) (l.length * 2 + j)) := by
  have e : (l ++ [x]).getD l.length zz = x := by rw [List.getD_eq_getElem?_getD, List.getElem?_concat_length]; rfl
  have h0 := zc_0 (l ++ [x]) l.length
  have h1 := zc_1 (l ++ [x]) l.length
  rw [e] at h0 h1
  rw [← h0, ← h1]
  rfl
def RowZ (w : World) (v : Value) (l : List Pz) : Prop := Row w v 2 (zc l) l.length
def OwnZ (w : World) (B : Nat) (v : Value) (l : List Pz) : Prop := w.ownsRow B 76 2 v l.length (arr (l.length * 2) (zc l)).toList
theorem OwnZ.row {w : World} {B : Nat} {v : Value} {l : List Pz} (h : OwnZ w B v l) : RowZ w v l := owns_row h
theorem OwnZ.nil (w : World) (B : Nat) : OwnZ w B (.slice none 0 0) [] := World.ownsRow_nil _ _ _ _
theorem OwnZ.all {w w' : World} {B : Nat} {v : Value} {l : List Pz} (h : OwnZ w B v l) (hb : Below w.heap.size w w') : OwnZ w' B v l := owns_all h hb
theorem OwnZ.mono {w : World} {B B' : Nat} {v : Value} {l : List Pz} (h : OwnZ w B v l) (hB : B' ≤ B) : OwnZ w B' v l :=
  ⟨h.1, h.2.imp id fun ⟨g, cap, cur, a, c, d⟩ => ⟨g, cap, cur, a, Nat.le_trans hB c, d⟩⟩
theorem OwnZ.drew {w : World} {B : Nat} {v : Value} {l : List Pz} (h : OwnZ w B v l) : OwnZ w.drew B v l := h
theorem RowZ.cells {w : World} {v : Value} {l : List Pz} (h : RowZ w v l) : ∃ ad cap, v = .slice ad l.length cap ∧ ∀ k, k < l.length → ∃ b o, ad = some ⟨b, o, none⟩ ∧ b < w.heap.size ∧ w.cell? ⟨b, o + k * 2, none⟩ = some (cpv (l.getD k zz)) ∧ w.cell? ⟨b, o + k * 2 + 1, none⟩ = some (.string (bs (l.getD k zz).t)) := by
  obtain ⟨ad, cap, rfl, ha⟩ := row_addr h
  refine ⟨ad, cap, rfl, fun k hk => ?_⟩
  obtain ⟨b, o, rfl, hb, hA⟩ := ha (by omega)
  refine ⟨b, o, rfl, hb, ?_, ?_⟩
  · rw [hA (k * 2) (by omega), zc_0]
  · rw [Nat.add_assoc, hA (k * 2 + 1) (by omega), zc_1]
theorem tPs : Try.prog.underlying 59 = some (.slice 76) := by kernel_rfl
theorem iP : (Try.prog.info? 76).map (fun i => (i.zero, i.size, i.bytes)) = some (some (.agg #[.complex .f64 0 0, .string ⟨#[]⟩]), 2, 32) := by kernel_rfl
theorem app_z {B : Nat} {w : World} {v : Value} {l : List Pz} (x : Pz) (h : OwnZ w B v l) (hB : B ≤ w.heap.size) (hn : l.length + 1 ≤ 100000) :
    ∃ g cap w', (Builtin.append_ #[59, 59] 59 #[v, .slice (some ⟨w.heap.size, 0, none⟩) 1 1]).run Try.prog (w.alloc (.cells #[cpv x, .string (bs x.t)] 76)) = .ok (.slice (some ⟨g, 0, none⟩) (l.length + 1) cap) w' ∧
      OwnZ w' B (.slice (some ⟨g, 0, none⟩) (l.length + 1) cap) (l ++ [x]) ∧ Below B w w' := by
  have h2 : w.ownsRow B 76 2 v l.length (arr (l.length * 2) (zc (l ++ [x]))).toList := by
    have e : arr (l.length * 2) (zc l) = arr (l.length * 2) (zc (l ++ [x])) := arr_congr fun i hi => (zc_snoc l x i hi).symm
    rw [← e]
    exact h
  obtain ⟨g, cap, w', hr, ho, hk, hat⟩ := app_own tPs iP rfl (by decide) (by decide) #[cpv x, .string (bs x.t)] (zc_last l x) (zc_one _) h2 hB hn
  refine ⟨g, cap, w', hr, ?_, hk.os, hk.tape, hk.output, hk.size, fun k hkB => hk.block k (fun e => ?_) (by omega)⟩
  · unfold OwnZ
    rw [List.length_append, List.length_singleton]
    exact ho
  · have := own_lt h e
    omega
end Go.Proofs.Ytekeaoolodmdaaa
