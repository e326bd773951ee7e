import Derived.Test.YtlbclfponongbaaV2
import Derived.Deep.WholeRow
import Derived.Deep.RegionLaw
/- The writer's ids, and what it has. -/
namespace Go.Proofs.Ytlbclfponongbaa
open Go.RowKit
def bv (f : Nat → UInt8) (i : Nat) : Value := cb (f i)
def idL (f : Nat → UInt8) : List UInt8 := (List.range 32).map f
theorem idL_length (f : Nat → UInt8) : (idL f).length = 32 := by simp [idL]
theorem idL_arr (f : Nat → UInt8) : (cbs (idL f)).toArray = arr 32 (bv f) := by
  apply Array.ext_getElem?
  intro i
  by_cases hi : i < 32
  · rw [arr_get _ _ _ hi]
    simp [cbs, idL, hi, bv]
  · rw [Array.getElem?_eq_none (by simp [cbs, idL]; omega), Array.getElem?_eq_none (by rw [arr_size]; omega)]
theorem ty30 : Try.prog.underlying 35 = some (.array 32 5) := by kernel_rfl
theorem sz30 : (Try.prog.info? 35).map (·.size) = some 32 := by kernel_rfl
theorem conv_wr {K : Nat → Prop} {w : World} {h : Nat} {l : List UInt8} (hw : Wr K w h l) : ∃ ad n cap, w.cell? ⟨h, 0, none⟩ = some (.slice ad n cap) ∧ (convert 53 9 (.slice ad n cap)).run Try.prog w = .ok (.string (bs l)) w := by
  obtain ⟨_, v, h1, h2, _, _⟩ := hw
  have C := cell_of_one h1
  rcases h2.2 with ⟨rfl, hz⟩ | ⟨g, cap, cur, rfl, _⟩
  · have hl : l = [] := List.eq_nil_of_length_eq_zero hz
    subst hl
    exact ⟨none, 0, 0, C, by simp [convert, run_underlying t25, run_underlying t9, run_underlying t5, Conv.bytesToString, loadCells, loadCellsFrom, bs]; rfl⟩
  · refine ⟨_, _, _, C, ?_⟩
    exact run_convert_bytes_back (P := Try.prog) w 53 9 5 ⟨g, 0, none⟩ cap l t25 t5 t9 (fun j hj => by
      have := h2.cells (g := g) rfl j (cb l[j]) (by simp [cbs, hj])
      exact this)
set_option maxHeartbeats 400000 in
set_option maxRecDepth 100000 in
theorem wstr_any {K : Nat → Prop} {w : World} {h : Nat} {l : List UInt8} (hw : Wr K w h l) :
    Calls Try.prog 23 #[.pointer (some ⟨h, 0, none⟩)] w fun e w' => e = .returned (.string (bs l)) ∧ w = w' := by
  obtain ⟨ad, n, cap, C, hc⟩ := conv_wr hw
  obtain ⟨sb, hsb⟩ : ∃ sb, sb = bs l := ⟨_, rfl⟩
  rw [← hsb] at hc ⊢
  clear hw hsb
  go_enter Try.func23, Try.ntmps23
  go_wp2
  go_ret
  exact ⟨rfl, rfl⟩
set_option maxHeartbeats 400000 in
set_option maxRecDepth 100000 in
theorem wid_any {K : Nat → Prop} {w : World} {h : Nat} {l : List UInt8} (f : Nat → UInt8) (b E : Nat) (hw : Wr K w h l) (hB : Blk w b E 32 (bv f)) (hl : l.length ≤ 1099511627776) :
    Calls Try.prog 30 #[.pointer (some ⟨h, 0, none⟩), .slice (some ⟨b, 0, none⟩) 1 1] w fun e w' => e = .returned (.tuple #[]) ∧ Wr K w' h (l ++ idL f) ∧ Keep K w w' := by
  have hw2 := (hw.alloc (.cells (arr 32 (bv f)) 35)).drew
  obtain ⟨v, ad, n, cap, w', h1, hr, h2, hW', hK'⟩ := app_blk hw2 (idL f) w.heap.size 35 32 32 (0, 0) (by rw [idL_length]; omega) (by rw [heap_drew, heap_alloc_new, idL_arr]) (idL_length f).symm
  have C1 := cell_of_one h1
  have C2 := cell_of_one h2
  have F2 := free_of_one h2
  have R := Lib.hid (And.intro hW' (((Keep.refl K w).alloc _).drew.trans hK'))
  clear hW' hK' hw hw2 h1 h2 hl
  go_enter Try.func30, Try.ntmps30
  go_wp2
  refine wp_loop_rounds 2 ?_
  rw [rounds_succ]
  go_wp2_with (first | (refine wpList_load_blk rfl 35 (.tmp 12) rfl b rfl E 32 (bv f) hB _ ty30 rfl sz30 ?_) | (refine wpList_store_blk rfl 35 (.tmp 5) (.tmp 13) rfl w.heap.size 32 (bv f) (bv fun _ => 0) rfl rfl 35 (Blk.newAt _ (heap_alloc_new _ _) rfl) sz30 (fun _ _ => rfl) ?_))
  rw [World.setRow_alloc_new]
  generalize w.alloc (.cells (arr 32 (bv f)) 35) = w2 at C1 hr ⊢
  generalize w.heap.size = z at hr ⊢
  go_region_law (refine step_append_run rfl (.tmp 18) (.tmp 19) 53 53 rfl v (.slice (some ⟨z, 0, none⟩) 32 32) _ _ rfl rfl hr ?_)
  all_goals go_wp2
  all_goals rw [rounds_succ]
  all_goals go_wp2
  all_goals go_end0
  all_goals exact ⟨rfl, R.out⟩
end Go.Proofs.Ytlbclfponongbaa
