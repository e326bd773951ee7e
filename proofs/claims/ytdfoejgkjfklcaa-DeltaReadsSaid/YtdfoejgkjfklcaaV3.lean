import Derived.Test.YtdfoejgkjfklcaaV2
import Derived.Deep.WholeRow
import Derived.Deep.RegionLaw
/- The writer's ids, and what it has. -/
namespace Go.Proofs.Ytdfoejgkjfklcaa
open Go.RowKit
def bv (f : Nat → UInt8) (i : Nat) : Value := cb (f i)
def idL (f : Nat → UInt8) : List UInt8 := (List.range 32).map f
theorem idL_length (f : Nat → UInt8) : (idL f).length = 32 := by simp [idL]
theorem idL_arr (f : Nat → UInt8) : (cbs (idL f)).toArray = arr 32 (bv f) := by
  apply Array.ext_getElem?
  intro i
  by_cases hi : i < 32
  · rw [arr_get _ _ _ hi]
    simp [cbs, idL, hi, bv]
  · rw [Array.getElem?_eq_none (by simp [cbs, idL]; omega), Array.getElem?_eq_none (by rw [arr_size]; omega)]
theorem conv_wr {K : Nat → Prop} {w : World} {h : Nat} {l : List UInt8} (hw : Wr K w h l) : ∃ ad n cap, w.cell? ⟨h, 0, none⟩ = some (.slice ad n cap) ∧ (convert 66 9 (.slice ad n cap)).run Try.prog w = .ok (.string (bs l)) w := by
  obtain ⟨_, v, h1, h2, _, _⟩ := hw
  have C := cell_of_one h1
  rcases h2.2 with ⟨rfl, hz⟩ | ⟨g, cap, cur, rfl, _⟩
  · have hl : l = [] := List.eq_nil_of_length_eq_zero hz
    subst hl
    exact ⟨none, 0, 0, C, by simp [convert, run_underlying t25, run_underlying t9, run_underlying t5, Conv.bytesToString, loadCells, loadCellsFrom, bs]; rfl⟩
  · refine ⟨_, _, _, C, ?_⟩
    exact run_convert_bytes_back (P := Try.prog) w 66 9 5 ⟨g, 0, none⟩ cap l t25 t5 t9 (fun j hj => by
      have := h2.cells (g := g) rfl j (cb l[j]) (by simp [cbs, hj])
      exact this)
set_option maxHeartbeats 400000 in
set_option maxRecDepth 100000 in
theorem wstr_any {K : Nat → Prop} {w : World} {h : Nat} {l : List UInt8} (hw : Wr K w h l) :
    Calls Try.prog 36 #[.pointer (some ⟨h, 0, none⟩)] w fun e w' => e = .returned (.string (bs l)) ∧ w = w' := by
  obtain ⟨ad, n, cap, C, hc⟩ := conv_wr hw
  obtain ⟨sb, hsb⟩ : ∃ sb, sb = bs l := ⟨_, rfl⟩
  rw [← hsb] at hc ⊢
  clear hw hsb
  go_enter Try.func36, Try.ntmps36
  go_wp2
  go_ret
  exact ⟨rfl, rfl⟩
end Go.Proofs.Ytdfoejgkjfklcaa
