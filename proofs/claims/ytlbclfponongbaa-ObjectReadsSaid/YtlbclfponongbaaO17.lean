import Derived.Test.YtlbclfponongbaaO16
import Derived.Test.YtlbclfponongbaaSg
/- Entries sorted by their names: the library's contract at them. -/
namespace Go.Proofs.Ytlbclfponongbaa
open Go.RowKit Go.Lib Classical
def lst (es : Nat → Ent) (n : Nat) : List Ent := (List.range n).map es
theorem lst_length (es : Nat → Ent) (n : Nat) : (lst es n).length = n := by simp [lst]
theorem lst_get (es : Nat → Ent) (n i : Nat) (h : i < n) : (lst es n)[i]? = some (es i) := by simp [lst, h]
def PermE (es fs : Nat → Ent) (n : Nat) : Prop := (lst es n).Perm (lst fs n)
def SortE (fs : Nat → Ent) (n : Nat) : Prop := ∀ i j, i < j → j < n → Op.bytesLess (fs j).name (fs i).name = false
theorem arr_lst (d : Array Ent) : d.toList = lst (fun i => d[i]!) d.size := by
  apply List.ext_getElem?
  intro i
  by_cases h : i < d.size
  · rw [lst_get _ _ _ h, Array.getElem?_toList, Array.getElem?_eq_getElem h, getElem!_pos d i h]
  · rw [List.getElem?_eq_none (by rw [Array.length_toList]; omega), List.getElem?_eq_none (by rw [lst_length]; omega)]
theorem lst_congr {es fs : Nat → Ent} {n : Nat} (h : ∀ i, i < n → es i = fs i) : lst es n = lst fs n := by
  unfold lst
  apply List.map_congr_left
  intro i hi
  exact h i (List.mem_range.1 hi)
theorem sort_block (w : World) (b off m : Nat) (d : Array Ent) (os : Array Obj) : Keep (fun k => k ≠ b) w (sortWorldK encE 34 w b off m d os) := by
  refine ⟨rfl, rfl, rfl, ?_, fun k hk hl => ?_⟩
  · unfold sortWorldK Sort.putRowK Sort.putRow Sort.mapBlock Sort.grow Sort.ahead
    simp
  · unfold sortWorldK
    rw [Sort.heap_grow_old _ _ (by unfold Sort.putRowK Sort.putRow Sort.mapBlock Sort.ahead; simpa using hl)]
    unfold Sort.putRowK Sort.putRow Sort.mapBlock Sort.ahead
    simp only [Array.getElem?_modify]
    rw [if_neg (fun e => hk e.symm)]
theorem holds_at {w : World} {b n : Nat} {d : Array Ent} (hd : d.size = n) (h : Sort.HoldsK encE 34 w b 0 d) : At w b 0 (n * 34) (ec fun i => d[i]!) ∧ ∀ j, j < n * 34 → w.frozen? ⟨b, 0 + j, none⟩ = false := by
  have key : ∀ j, j < n * 34 → w.cell? ⟨b, 0 + j, none⟩ = some (ec (fun i => d[i]!) j) ∧ w.frozen? ⟨b, 0 + j, none⟩ = false := fun j hj => by
    have h1 := h.cell (i := j / 34) (c := j % 34) (by omega) (by omega)
    rw [encE_get _ _ (by omega)] at h1
    have e : 0 + j / 34 * 34 + j % 34 = 0 + j := by omega
    rw [e] at h1
    exact h1
  exact ⟨fun j hj => (key j hj).1, fun j hj => (key j hj).2⟩
theorem at_holds {w : World} {b n : Nat} {es : Nat → Ent} (h : At w b 0 (n * 34) (ec es)) (hf : ∀ j, j < n * 34 → w.frozen? ⟨b, 0 + j, none⟩ = false) : Sort.HoldsK encE 34 w b 0 (Array.ofFn (fun i : Fin n => es i)) := by
  intro j hj
  have hj2 : j < n * 34 := by simpa using hj
  rw [Sort.get_flatK _ _ _ _ (by simpa using hj2), encE_get _ _ (by omega)]
  refine ⟨?_, hf j hj2⟩
  rw [h j hj2]
  have : j / 34 < n := by omega
  have e : (Array.ofFn (fun i : Fin n => es i))[j / 34]! = es (j / 34) := by rw [getElem!_pos _ _ (by simpa using this)]; simp
  rw [e]
  rfl
set_option maxRecDepth 100000 in
theorem sort_any (es : Nat → Ent) (n b c : Nat) (w : World) (hb : b < w.heap.size) (hA : At w b 0 (n * 34) (ec es)) (hf : ∀ j, j < n * 34 → w.frozen? ⟨b, 0 + j, none⟩ = false) (hn : n ≤ 100000) :
    Calls Try.prog 25 #[.slice (some ⟨b, 0, none⟩) n c, .func (.func 26) #[] #[]] w fun e w' => e = .returned (.tuple #[]) ∧ ∃ fs, PermE es fs n ∧ SortE fs n ∧ At w' b 0 (n * 34) (ec fs) ∧ (∀ j, j < n * 34 → w'.frozen? ⟨b, 0 + j, none⟩ = false) ∧ Keep (fun k => k ≠ b) w w' := by
  have eg : ∀ args w, (callFunc 26 args).run Try.prog w = .ok (.enter 26 args) w := enters_of Try.func26 (by kernel_rfl) rfl
  have hz : (Array.ofFn (fun i : Fin n => es i)).size = n := by simp
  have hH := at_holds hA hf
  have h := AnyQ.slices_SortFunc sortE 34 Try.isAgg37 Try.sizeOf37 encE encE_len encE_one cfE swoE 26 #[] b 0 c (Array.ofFn (fun i : Fin n => es i)) w eg
    (fun m os dk _ x y => by
      rw [Array.append_empty, encE_arr, encE_arr]
      exact cmp_any x y _) hH hb (by rw [hz]; omega)
  rw [hz] at h
  refine h.mono ?_
  rintro e w' ⟨h1, d', m, os, hp, hs, rfl⟩
  obtain ⟨p1, p2, p3⟩ := hp
  rw [hz] at p1
  have hH2 : Sort.HoldsK encE 34 (sortWorldK encE 34 w b 0 m d' os) b 0 d' := by
    unfold sortWorldK
    refine Sort.holdsK_grow _ _ _ _ _ _ _ (by unfold Sort.putRowK Sort.putRow Sort.mapBlock Sort.ahead; simpa using hb) ?_
    exact Sort.holdsK_putRowK encE 34 _ b 0 _ _ (Sort.holdsK_ahead _ _ _ _ _ _ _ hH) (by rw [p1, hz])
  obtain ⟨a1, a2⟩ := holds_at p1 hH2
  refine ⟨h1, fun i => d'[i]!, ?_, fun i j hij hj => ?_, a1, a2, sort_block _ _ _ _ _ _⟩
  · unfold PermE
    have e1 : lst es n = (Array.ofFn (fun i : Fin n => es i)).toList := by
      rw [arr_lst, hz]
      refine lst_congr fun i hi => ?_
      rw [getElem!_pos _ _ (by simpa using hi)]
      simp
    have e2 : lst (fun i => d'[i]!) n = d'.toList := by rw [arr_lst, p1]
    rw [e1, e2]
    have p4 := p3.symm
    rw [Array.extract_eq_self_of_le (by rw [hz]; omega), Array.extract_eq_self_of_le (by rw [p1]; omega)] at p4
    exact p4
  · have := hs i j (Nat.zero_le _) hij hj
    rw [ltE] at this
    exact this
theorem sort_none (p : Option Addr) (c : Nat) (fv : Value) (w : World) : Calls Try.prog 25 #[.slice p 0 c, fv] w fun e w' => e = .returned (.tuple #[]) ∧ w' = w :=
  AnyF.slices_SortFunc_none (P := Try.prog) (ρ := sortE_ren) { sortE with } p c fv w
end Go.Proofs.Ytlbclfponongbaa
