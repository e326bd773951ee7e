import Derived.Test.YtlbclfponongbaaGreatDoorO29m
import Derived.Laws.CopyRow
import Derived.Laws.MakeOwn
/- Room made for entries, entries copied, ids appended to an empty list. -/
namespace Go.Proofs.YtlbclfponongbaaGreatDoor
open Go.RowKit Classical
def zE : Ent := ⟨[], 0, fun _ => 0⟩
def er (es : Nat → Ent) (n i : Nat) : Ent := if i < n then es i else zE
theorem run_loads {w : World} {b o k : Nat} {c : Nat → Value} (h : At w b o k c) : (loadCells ⟨b, o, none⟩ k).run Tryz.prog w = .ok (arr k c) w := by
  have hl := run_loadCells_list (P := Tryz.prog) w ⟨b, o, none⟩ (arr k c).toList (fun j v hj => by
    have := h.range j v hj
    rw [Addr.add_mid]; exact this)
  rw [Array.length_toList, arr_size, Array.toArray_toList] at hl
  exact hl
theorem copy_ents {es : Nat → Ent} {n rm cap : Nat} {ad : Option Addr} {w : World} (ty : TypeId) (hR : Row w (.slice ad n cap) 34 (ec es) n) (hB : Blk w rm 56 ((n + 2) * 34) (ec fun _ => zE)) :
    ∃ w', (Builtin.copy_ #[32, 32] ty #[.slice (some ⟨rm, 0, none⟩) n (n + 2), .slice ad n cap]).run Tryz.prog w = .ok (goInt n) w' ∧ Blk w' rm 56 ((n + 2) * 34) (ec (er es n)) ∧ Keep (fun k => k ≠ rm) w w' := by
  obtain ⟨i0, hi0, -, hz1, -⟩ := info_parts iEntry
  by_cases h0 : n = 0
  · subst h0
    refine ⟨w, ?_, hB.congr fun i _ => by unfold er; simp [ec], Keep.refl _ _⟩
    cases ad with
    | none => simp [Builtin.copy_, run_underlying tEntries, Builtin.lenOf, Builtin.firstCells, sizeOf, typeInfo, hi0, storeCells]
    | some a => simp [Builtin.copy_, run_underlying tEntries, Builtin.lenOf, Builtin.firstCells, sizeOf, typeInfo, hi0, storeCells, loadCells, loadCellsFrom]
  · obtain ⟨ad2, cap2, e, ha⟩ := row_addr hR
    cases e
    obtain ⟨b, o, rfl, hb, hA⟩ := ha (by omega)
    have hl := run_loads hA
    have hst := run_storeCells_at Tryz.prog rm 0 56 (arr (n * 34) (ec es)).toList 0 _ w hB (by rw [Array.length_toList, arr_size, arr_size]; omega) (fun v hv => by
      rw [Array.mem_toList_iff] at hv
      unfold arr at hv
      rw [Array.mem_ofFn] at hv
      obtain ⟨i, rfl⟩ := hv
      exact ev_one _ _)
    have he : (List.take (0 + 0) (arr ((n + 2) * 34) (ec fun _ => zE)).toList ++ (arr (n * 34) (ec es)).toList ++ List.drop (0 + 0 + (arr (n * 34) (ec es)).toList.length) (arr ((n + 2) * 34) (ec fun _ => zE)).toList).toArray = arr ((n + 2) * 34) (ec (er es n)) := by
      apply Array.ext_getElem?
      intro i
      rw [List.getElem?_toArray, List.take_zero, List.nil_append, Nat.add_zero, Nat.zero_add, Array.length_toList, arr_size]
      by_cases h1 : i < n * 34
      · rw [List.getElem?_append_left (by rw [Array.length_toList, arr_size]; exact h1), Array.getElem?_toList, arr_get _ _ _ h1, arr_get _ _ _ (by omega)]
        unfold ec er
        rw [if_pos (by omega)]
      · rw [List.getElem?_append_right (by rw [Array.length_toList, arr_size]; omega), Array.length_toList, arr_size, List.getElem?_drop, Array.getElem?_toList, show n * 34 + (i - n * 34) = i by omega]
        by_cases h2 : i < (n + 2) * 34
        · rw [arr_get _ _ _ h2, arr_get _ _ _ h2]
          unfold ec er
          rw [if_neg (by omega)]
        · rw [Array.getElem?_eq_none (by rw [arr_size]; omega), Array.getElem?_eq_none (by rw [arr_size]; omega)]
    rw [he] at hst
    refine ⟨_, by simp [Builtin.copy_, run_underlying tEntries, Builtin.lenOf, Builtin.firstCells, sizeOf, typeInfo, hi0, hz1, hl, hst], hB.setRow _, (Keep.refl _ _).setRow (by simp) _⟩
theorem made_ents (k : Nat) : madeCells (Value.agg (arr 34 (ev ⟨[], 0, fun _ => 0⟩))).cells (k * 34) = arr (k * 34) (ec fun _ => zE) := by
  unfold madeCells
  apply Array.ext_getElem?
  intro i
  by_cases h : i < k * 34
  · rw [arr_get _ _ _ h]
    simp only [Array.getElem?_map]
    rw [show (Array.range (k * 34))[i]? = some i by simp [h]]
    simp only [Option.map_some, Value.cells]
    rw [arr_size, getElem!_pos _ _ (by rw [arr_size]; omega)]
    have := arr_get 34 (ev ⟨[], 0, fun _ => 0⟩) (i % 34) (by omega)
    rw [Array.getElem?_eq_getElem (by rw [arr_size]; omega)] at this
    rw [this]
    rfl
  · rw [Array.getElem?_eq_none (by simp; omega), Array.getElem?_eq_none (by rw [arr_size]; omega)]
theorem make_ents (w : World) (l c : Nat) (hl : l ≤ c) (hc : c ≤ 100000) :
    (Instr.makeSlice 32 (.int .i64 (l : Int)) (.int .i64 (c : Int))).run Tryz.prog w = .ok (.slice (some ⟨w.heap.size, 0, none⟩) l c) (w.alloc (.cells (arr (c * 34) (ec fun _ => zE)) 56)) := by
  obtain ⟨i0, hi, hz0, hz1, hz2⟩ := info_parts iEntry
  have h := run_make (P := Tryz.prog) w 32 56 i0 _ tEntries hi hz0 .i64 .i64 l c (by omega) (by omega) (by rw [hz2]; omega) (by omega)
  rw [hz1] at h
  simp only [Int.toNat_natCast] at h
  rw [made_ents] at h
  exact h
theorem app_ids {p : Nat → Nat → UInt8} {n cap : Nat} {ad : Option Addr} {w : World} (ty : TypeId) (hR : Row w (.slice ad n cap) 32 (pc p) n) (hn : n ≤ 1000) :
    ∃ v' w', (Builtin.append_ #[35, 35] ty #[.slice (some ⟨w.heap.size, 0, none⟩) 0 0, .slice ad n cap]).run Tryz.prog (w.alloc (.cells #[] 29)) = .ok v' w' ∧ w'.ownsRow w.heap.size 29 32 v' n (arr (n * 32) (pc p)).toList ∧ Below w.heap.size w w' := by
  obtain ⟨i0, hi0, hz0, hz1, hz2⟩ := info_parts iId
  have ho : (w.alloc (.cells #[] 29)).ownsRow w.heap.size 29 32 (.slice (some ⟨w.heap.size, 0, none⟩) 0 0) 0 [] := World.ownsRow_made w #[] 0 (Nat.le_refl _) (Nat.zero_le _) (by simp)
  have hA := (Below.refl w.heap.size w).alloc (Nat.le_refl _) (.cells #[] 29)
  cases ad with
  | none =>
    have e : n = 0 := by
      obtain ⟨ad2, cap2, e, ha⟩ := row_addr hR
      cases e
      by_cases h : 0 < n
      · obtain ⟨b, o, h, _⟩ := ha h; cases h
      · omega
    subst e
    refine ⟨_, _, ?_, by simpa [arr] using ho, hA⟩
    simp [Builtin.append_, run_underlying tIds, sizeOf, typeInfo, hi0, Builtin.lenOf, Builtin.firstCells, storeCells]
  | some a =>
    have hsrc : ∀ j u, (arr (n * 32) (pc p)).toList[j]? = some u → (w.alloc (.cells #[] 29)).cell? (a.add j) = some u := by
      intro j u hj
      by_cases h : 0 < n
      · obtain ⟨ad2, cap2, e, ha⟩ := row_addr hR
        cases e
        obtain ⟨b, o, e, hb, hc⟩ := ha h
        cases e
        rw [Addr.add_mid]
        exact (hc.below hA hb).range j u hj
      · have e : n = 0 := by omega
        subst e
        simp [arr] at hj
    obtain ⟨v', w', hr, h2, h3, -⟩ := run_append_own (P := Tryz.prog) (w.alloc (.cells #[] 29)) w.heap.size 35 ty 29 i0 _ 32 32 tIds hi0 hz0 hz1 hz2 (arr_size 32 _) (by decide) _ 0 [] ho a n cap (arr (n * 32) (pc p)).toList (by rw [Array.length_toList, arr_size]) hsrc (fun u hu => by
      rw [Array.mem_toList_iff] at hu
      unfold arr at hu
      rw [Array.mem_ofFn] at hu
      obtain ⟨i, rfl⟩ := hu
      rfl) (by unfold maxLen; omega) (by omega) (by simp)
    refine ⟨v', w', hr, by simpa using h2, ?_⟩
    exact hA.grown h3 (by simp) (by intro k hk; simp [Value.ownBlock] at hk; omega)
theorem ex_make {o : Oper} {a : Act} {w w' : World} (ty : TypeId) (x y : Operand) (ho : o.op = .makeSlice ty x y) {v : Value} (hr : (Instr.makeSlice ty (a.eval x) (a.eval y)).run Tryz.prog w = .ok v w') : (execOp a.eval o).run Tryz.prog w = .ok (.value v) w' := by
  unfold execOp
  simp only [ho, Sem.run_bind, hr, Result.andThen_ok]
  rfl
theorem ex_copy {o : Oper} {a : Act} {w w' : World} (x y : Operand) (t u : TypeId) (hop : o.op = .call { callee := .builtin .copy, args := #[x, y], argTypes := #[t, u] }) {v vx vy : Value} (hx : a.eval x = vx) (hy : a.eval y = vy)
    (hr : (Builtin.copy_ #[t, u] o.type #[vx, vy]).run Tryz.prog w = .ok v w') : (execOp a.eval o).run Tryz.prog w = .ok (.value v) w' := by
  simp [execOp, hop, resolve, invoke, builtin, hx, hy, hr, Result.andThen]
theorem ex_append {o : Oper} {a : Act} {w w' : World} (x y : Operand) (t u : TypeId) (hop : o.op = .call { callee := .builtin .append, args := #[x, y], argTypes := #[t, u] }) {v vx vy : Value} (hx : a.eval x = vx) (hy : a.eval y = vy)
    (hr : (Builtin.append_ #[t, u] o.type #[vx, vy]).run Tryz.prog w = .ok v w') : (execOp a.eval o).run Tryz.prog w = .ok (.value v) w' := by
  simp [execOp, hop, resolve, invoke, builtin, hx, hy, hr, Result.andThen]
/- the block of ids of the call's own -/
theorem owns_blk {w : World} {B n : Nat} {v : Value} {c : Nat → Value} (h : w.ownsRow B 29 32 v n (arr (n * 32) c).toList) (h0 : 0 < n) : ∃ g cap N f, v = .slice (some ⟨g, 0, none⟩) n cap ∧ B ≤ g ∧ n * 32 ≤ N ∧ Blk w g 29 N f := by
  rcases h.2 with ⟨rfl, h1⟩ | ⟨g, cap, cur, rfl, hb, hg, h2, h3, h4, h5⟩
  · omega
  · refine ⟨g, cap, cur.size, fun i => cur[i]!, rfl, hb, by rw [h4]; exact Nat.mul_le_mul_right _ h2, ?_⟩
    have e : cur = arr cur.size (fun i => cur[i]!) := by
      apply Array.ext_getElem?
      intro i
      by_cases hi : i < cur.size
      · rw [arr_get _ _ _ hi, Array.getElem?_eq_getElem hi, getElem!_pos cur i hi]
      · rw [Array.getElem?_eq_none (by omega), Array.getElem?_eq_none (by rw [arr_size]; omega)]
    exact Blk.newAt _ hg e
end Go.Proofs.YtlbclfponongbaaGreatDoor
