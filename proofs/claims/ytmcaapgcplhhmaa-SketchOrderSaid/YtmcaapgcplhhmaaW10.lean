import Derived.Test.YtmcaapgcplhhmaaW9
/- What Order's rounds hold: plain facts; appends within the room there is. -/
namespace Go.Proofs.Ytmcaapgcplhhmaa
open Go.RowKit
/- how far places are apart -/
def dist (gs : Nat → Nat → Int) (i j : Nat) : Nat := far (gs i) (gs j)
/- the places that are left behind m + 1 steps, by their spots -/
def lp (D : Nat → Nat → Nat) (len m q : Nat) : Nat := (lft D len (m + 1)).getD q 0
theorem lp_zero (D : Nat → Nat → Nat) (len q : Nat) (h : q + 1 < len) : lp D len 0 q = q + 1 := by
  have e0 : lft D len 0 = List.range len := by
    unfold lft
    rw [List.filter_eq_self.2]
    intro x _
    rfl
  unfold lp
  rw [lft_step D len 0 0 (by rw [e0, List.length_range]; omega) (by
    rw [e0, pl_zero, List.getD_eq_getElem?_getD, List.getElem?_range (by omega)]; rfl), e0, List.getD_eq_getElem?_getD, List.getElem?_eraseIdx, if_neg (by omega), List.getElem?_range h]
  rfl
theorem lp_step (D : Nat → Nat → Nat) (len m : Nat) (h : m + 1 < len) :
    ∃ k, bst every (fun i => D (pl D len m) (lp D len m i)) (len - 1 - m) = some k ∧ k < len - 1 - m ∧ lp D len m k = pl D len (m + 1) ∧ (∀ q, lp D len (m + 1) q = if q < k then lp D len m q else lp D len m (q + 1)) := by
  have hl := lft_length D len (m + 1) (by omega)
  obtain ⟨k, h1, h2, h3⟩ := step_near D len m (by omega)
  have e : len - (m + 1) = len - 1 - m := by omega
  rw [hl, e] at h1 h2
  refine ⟨k, h1, h2, h3, fun q => ?_⟩
  unfold lp
  rw [lft_step D len (m + 1) k (by omega) h3, List.getD_eq_getElem?_getD, List.getElem?_eraseIdx]
  by_cases c : q < k
  · rw [if_pos c, if_pos c, List.getD_eq_getElem?_getD]
  · rw [if_neg c, if_neg c, List.getD_eq_getElem?_getD]
theorem lp_lt (D : Nat → Nat → Nat) (len m q : Nat) (h : q < len - 1 - m) (hm : m < len) : lp D len m q < len := by
  have hl := lft_length D len (m + 1) (by omega)
  unfold lp
  have hq : q < (lft D len (m + 1)).length := by omega
  rw [List.getD_eq_getElem?_getD, List.getElem?_eq_getElem hq]
  exact ((mem_lft D len (m + 1) _).1 (List.getElem_mem hq)).1
theorem made_int (n : Nat) : madeCells (Value.int .i64 0).cells (n * 1) = arr n (fun _ => .int .i64 0) := by
  unfold madeCells arr
  apply Array.ext
  · simp
  · intro i h1 h2
    simp [Value.cells, Nat.mod_one]
theorem make_int (w : World) (l c : Nat) (hl : l ≤ c) (hc : c ≤ 100000) :
    (Instr.makeSlice 44 (.int .i64 (l : Int)) (.int .i64 (c : Int))).run Try.prog w = .ok (.slice (some ⟨w.heap.size, 0, none⟩) l c) (w.alloc (.cells (arr c (fun _ => .int .i64 0)) 3)) := by
  obtain ⟨i0, hi, hz0, hz1, hz2⟩ := info_parts i3
  have h := run_make (P := Try.prog) w 44 3 i0 (.int .i64 0) t44 hi hz0 .i64 .i64 l c (by omega) (by omega) (by rw [hz2]; omega) (by omega)
  rw [hz1] at h
  simp only [Int.toNat_natCast] at h
  rw [made_int] at h
  exact h
theorem app_int {w : World} {g n cap : Nat} {f : Nat → Value} (hB : Blk w g 3 cap f) (x : Int) (hn : n < cap) :
    ∃ w', (Builtin.append_ #[44, 44] 44 #[.slice (some ⟨g, 0, none⟩) n cap, .slice (some ⟨w.heap.size, 0, none⟩) 1 1]).run Try.prog (w.alloc (.cells #[.int .i64 x] 3)) = .ok (.slice (some ⟨g, 0, none⟩) (n + 1) cap) w' ∧
      Blk w' g 3 cap (fun j => if j = n then .int .i64 x else f j) ∧ Keep (fun k => k ≠ g) w w' := by
  obtain ⟨i0, hi, hz0, hz1, hz2⟩ := info_parts i3
  have hA := hB.alloc (.cells #[.int .i64 x] 3)
  have h := run_append_room_cells (P := Try.prog) (w.alloc (.cells #[.int .i64 x] 3)) 44 44 3 i0 t44 hi g 0 n cap ⟨w.heap.size, 0, none⟩ 1 1 [.int .i64 x] (by rw [hz1]; rfl) (World.news_of_block (heap_alloc_new _ _)) (by intro u hu; simp at hu; subst hu; rfl) (by omega)
    (fun j hj => by
      have hj0 : j = 0 := by simpa using hj
      subst hj0
      rw [hz1, hA.cell _ (by omega)]; rfl) (fun j hj => hA.frozen _)
  refine ⟨_, h, ?_, ((Keep.refl _ w).alloc _).trans (keep_setCells _ _ _)⟩
  rw [hz1]
  refine (Blk.setCells _ _ _ _ hA).congr fun j _ => ?_
  simp only [List.length_singleton]
  by_cases c : j = n
  · subst c
    rw [if_pos (by omega), if_pos rfl, show j - (0 + j * 1) = 0 by omega]
    rfl
  · rw [if_neg (by omega), if_neg c]
end Go.Proofs.Ytmcaapgcplhhmaa
