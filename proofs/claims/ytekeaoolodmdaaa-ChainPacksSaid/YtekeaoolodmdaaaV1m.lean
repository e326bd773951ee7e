import Derived.Test.YtekeaoolodmdaaaV0
import Derived.Test.YtekeaoolodmdaaaProg
import Derived.Lib.Hide
import Derived.WalkSpells
import Derived.WalkSmall
import Derived.Deep.Draws
import Derived.Deep.Cut
import Derived.Deep.WholeRow
import Derived.Deep.RegionLaw
/- The writer's numbers. -/
namespace Go.Proofs.Ytekeaoolodmdaaa
open Go.RowKit
theorem app_byte {K : Nat → Prop} {w : World} {h : Nat} {l : List UInt8} (hw : Wr K w h l) (b : UInt8) (x : Int) (hx : x = b.toNat) (hlen : l.length + 1 ≤ 140737488355328) :
    ∃ v ad n cap w', w.cell? ⟨h, 0, none⟩ = some v ∧ (Builtin.append_ #[89, 89] 89 #[v, .slice (some ⟨w.heap.size, 0, none⟩) 1 1]).run Try.prog (w.alloc (.cells #[.int .u8 x] 5)) = .ok (.slice ad n cap) w' ∧
      w'.cell? ⟨h, 0, none⟩ = some v ∧ w'.frozen? ⟨h, 0, none⟩ = false ∧ Wr K (w'.setCell ⟨h, 0, none⟩ (.slice ad n cap)) h (l ++ [b]) ∧ Keep K w (w'.setCell ⟨h, 0, none⟩ (.slice ad n cap)) := by
  subst hx
  obtain ⟨v, ad, n, cap, w', h1, hr, h2, h3, h4⟩ := app_blk (hw.alloc (.cells #[.int .u8 b.toNat] 5)) [b] w.heap.size 5 1 1 (0, 0) hlen (by rw [heap_alloc_new]; rfl) rfl
  rw [heap_alloc_old _ _ hw.lt] at h1
  exact ⟨v, ad, n, cap, w', cell_of_one h1, hr, cell_of_one h2, free_of_one h2, h3, ((Keep.refl K w).alloc _).trans h4⟩
set_option maxHeartbeats 400000 in
set_option maxRecDepth 100000 in
theorem wnum_any {K : Nat → Prop} {w : World} {h : Nat} {l : List UInt8} (n : Nat) (hw : Wr K w h l) (hn : n ≤ 1099511627775) (hl : l.length ≤ 1099511627776) :
    Calls Try.prog 61 #[.pointer (some ⟨h, 0, none⟩), .int .i64 n] w fun e w' => e = .returned (.tuple #[]) ∧ Wr K w' h (l ++ dg n) ∧ Keep K w w' := by
  go_enter Try.func61, Try.ntmps61
  go_wp2
  go_loopw [1] (fun i wr => ∃ (m : Nat) (pre : List UInt8), i = .int .i64 m ∧ m ≤ n ∧ Hid (pre ++ dg m = dg n) ∧ Wr K wr h (l ++ pre) ∧ Keep K w wr) (fun i _ => (intOf i).toNat)
  case atStart => exact ⟨n, [], rfl, Nat.le_refl _, rfl, by rw [List.append_nil]; exact hw, Keep.refl _ _⟩
  case round =>
    obtain ⟨m, pre, rfl, hm, hd, hW, hK⟩ := hrel
    have hpl : pre.length ≤ 6 := by
      have h1 := congrArg List.length hd.out
      rw [List.length_append] at h1
      have h2 := dg_le n 0 (by omega) (by omega)
      omega
    by_cases c : m < 128
    · obtain ⟨v, ad, z, cap, w', C1, hr, C2, F2, hW', hK'⟩ := app_byte hW (UInt8.ofNat m) m (by rw [ofNat_toNat_small (by omega)]) (by simp; omega)
      have R := Lib.hid (And.intro hW' (hK.trans hK'))
      have c1 : decide ((128 : Int) ≤ (m : Int)) = false := by simp; omega
      have c2 : (m : Int) < 128 := by omega
      clear hW' hK' hW hK hpl
      go_wp2_with (at_builtin; refine wpList_append_run rfl (.tmp 25) (.tmp 28) 89 89 rfl _ _ _ _ rfl rfl hr ?_)
      have hd2 := hd.out
      rw [dg_low c] at hd2
      rw [List.append_assoc, hd2] at R
      go_end0
      exact ⟨rfl, R.out⟩
    · have hdg : pre ++ [UInt8.ofNat (m % 128 + 128)] ++ dg (m / 128) = dg n := by
        rw [← hd.out, dg_high c]; simp
      have e1 : (m : Int).tmod 128 = (m : Int) % 128 := Int.tmod_eq_emod_of_nonneg (by omega)
      have e2 : (m : Int).tdiv 128 = ((m / 128 : Nat) : Int) := by rw [Int.tdiv_eq_ediv_of_nonneg (by omega)]; omega
      obtain ⟨v, ad, z, cap, w', C1, hr, C2, F2, hW', hK'⟩ := app_byte hW (UInt8.ofNat (m % 128 + 128)) ((m : Int) % 128 + 128) (by rw [ofNat_toNat_small (by omega)]; omega) (by simp; omega)
      have R := Lib.hid (And.intro hW' (hK.trans hK'))
      have c1 : (128 : Int) ≤ (m : Int) := by omega
      have Hd := Lib.hid hdg
      clear hW' hK' hW hK hpl hdg
      go_wp2_with (at_builtin; refine wpList_append_run rfl (.tmp 10) (.tmp 15) 89 89 rfl _ _ _ _ rfl rfl hr ?_)
      go_roundw
      case rel => exact ⟨m / 128, pre ++ [UInt8.ofNat (m % 128 + 128)], by go_num, by omega, Hd.out, by rw [← List.append_assoc]; exact R.out.1, R.out.2⟩
      case measure => simp [intOf]; omega
/- what a slice of values says: element i is what f tells -/
def Vals (w : World) (v : Value) (len : Nat) (f : Nat → Value) : Prop :=
  ∃ ad cap, v = .slice ad len cap ∧ (0 < len → ∃ b o, ad = some ⟨b, o, none⟩ ∧ ∀ i, i < len → w.cell? ⟨b, o + i, none⟩ = some (f i))
/- the numbers of a list, one behind the other -/
def dgs (ns : Nat → Int) : Nat → List UInt8
  | 0 => []
  | k + 1 => dgs ns k ++ dg (clamp (ns k))
theorem clamp_int (n : Int) : min (max n 0) 1099511627775 = ((clamp n : Nat) : Int) := by unfold clamp; omega
set_option maxHeartbeats 400000 in
set_option maxRecDepth 100000 in
theorem wnum1_any {K : Nat → Prop} {w : World} {h : Nat} {l : List UInt8} (n : Int) (b : Nat) (hw : Wr K w h l) (hc : w.cell? ⟨b, 0, none⟩ = some (.int .i64 n)) (hb : b ≠ h) (hl : l.length ≤ 1099511627776) :
    Calls Try.prog 46 #[.pointer (some ⟨h, 0, none⟩), .slice (some ⟨b, 0, none⟩) 1 1] w fun e w' => e = .returned (.tuple #[]) ∧ Wr K w' h (l ++ dg (clamp n)) ∧ Keep K w w' := by
  have H : Hid (∀ x : Int, x = ((clamp n : Nat) : Int) → Calls Try.prog 61 #[.pointer (some ⟨h, 0, none⟩), .int .i64 x] w fun e w' => e = .returned (.tuple #[]) ∧ Wr K w' h (l ++ dg (clamp n)) ∧ Keep K w w') := by
    rintro _ rfl
    exact wnum_any (clamp n) hw (clamp_le n) hl
  go_enter Try.func46, Try.ntmps46
  go_wp2
  refine wp_loop_rounds 2 ?_
  rw [rounds_succ]
  go_wp2_with fail
  all_goals (refine (H.out _ (by unfold clamp; omega)).mono ?_)
  all_goals (rintro e w1 ⟨rfl, h1, h2⟩)
  all_goals go_wp2
  all_goals rw [rounds_succ]
  all_goals go_wp2
  all_goals go_end0
  all_goals exact ⟨rfl, h1, h2⟩
/- a nil writer -/
theorem wnum_nil (v : Value) (w : World) : Calls Try.prog 46 #[.pointer none, v] w fun e w' => e = .returned (.tuple #[]) ∧ w = w' := by
  go_enter Try.func46, Try.ntmps46
  go_wp2
  exact bodyPost_ret (results_none rfl _ _ _) rfl ⟨rfl, rfl⟩
theorem wraw_nil (v : Value) (w : World) : Calls Try.prog 63 #[.pointer none, v] w fun e w' => e = .returned (.tuple #[]) ∧ w = w' := by
  go_enter Try.func63, Try.ntmps63
  go_wp2
  exact bodyPost_ret (results_none rfl _ _ _) rfl ⟨rfl, rfl⟩
theorem wstr_nil (w : World) : Calls Try.prog 48 #[.pointer none] w fun e w' => e = .returned (.string ⟨#[]⟩) ∧ w = w' := by
  go_enter Try.func48, Try.ntmps48
  go_wp2
  go_ret
  exact ⟨rfl, rfl⟩
end Go.Proofs.Ytekeaoolodmdaaa
/- The writer's bytes, texts and ids, and what it has. -/
namespace Go.Proofs.Ytekeaoolodmdaaa
open Go.RowKit
set_option maxHeartbeats 400000 in
set_option maxRecDepth 100000 in
theorem wraw_any {K : Nat → Prop} {w : World} {h : Nat} {l : List UInt8} (s : List UInt8) (b : Nat) (hw : Wr K w h l) (hc : w.cell? ⟨b, 0, none⟩ = some (.string (bs s))) (hl : l.length + s.length ≤ 140737488355328) :
    Calls Try.prog 63 #[.pointer (some ⟨h, 0, none⟩), .slice (some ⟨b, 0, none⟩) 1 1] w fun e w' => e = .returned (.tuple #[]) ∧ Wr K w' h (l ++ s) ∧ Keep K w w' := by
  obtain ⟨v, ad, n, cap, w', h1, hr, h2, hW', hK'⟩ := app_str hw s hl
  have C1 := cell_of_one h1
  have C2 := cell_of_one h2
  have F2 := free_of_one h2
  have R := Lib.hid (And.intro hW' hK')
  obtain ⟨sb, hsb⟩ : ∃ sb, sb = bs s := ⟨_, rfl⟩
  rw [← hsb] at hc hr
  clear hW' hK' hw h1 h2 hsb
  go_enter Try.func63, Try.ntmps63
  go_wp2
  refine wp_loop_rounds 2 ?_
  rw [rounds_succ]
  go_wp2_with (at_builtin; refine wpList_append_run rfl (.tmp 18) (.tmp 19) 89 9 rfl _ _ _ _ rfl rfl hr ?_)
  rw [rounds_succ]
  go_wp2
  go_end0
  exact ⟨rfl, R.out⟩
theorem wraw_none {K : Nat → Prop} {w : World} {h : Nat} {l : List UInt8} (hw : Wr K w h l) : Wr K w h (l ++ []) := by rw [List.append_nil]; exact hw
end Go.Proofs.Ytekeaoolodmdaaa
/- The writer's ids, and what it has. -/
namespace Go.Proofs.Ytekeaoolodmdaaa
open Go.RowKit
def bv (f : Nat → UInt8) (i : Nat) : Value := cb (f i)
def idL (f : Nat → UInt8) : List UInt8 := (List.range 32).map f
theorem idL_length (f : Nat → UInt8) : (idL f).length = 32 := by simp [idL]
theorem idL_arr (f : Nat → UInt8) : (cbs (idL f)).toArray = arr 32 (bv f) := by
  apply Array.ext_getElem?
  intro i
  by_cases hi : i < 32
  · rw [arr_get _ _ _ hi]
    simp [cbs, idL, hi, bv]
  · rw [Array.getElem?_eq_none (by simp [cbs, idL]; omega), Array.getElem?_eq_none (by rw [arr_size]; omega)]
theorem conv_wr {K : Nat → Prop} {w : World} {h : Nat} {l : List UInt8} (hw : Wr K w h l) : ∃ ad n cap, w.cell? ⟨h, 0, none⟩ = some (.slice ad n cap) ∧ (convert 89 9 (.slice ad n cap)).run Try.prog w = .ok (.string (bs l)) w := by
  obtain ⟨_, v, h1, h2, _, _⟩ := hw
  have C := cell_of_one h1
  rcases h2.2 with ⟨rfl, hz⟩ | ⟨g, cap, cur, rfl, _⟩
  · have hl : l = [] := List.eq_nil_of_length_eq_zero hz
    subst hl
    exact ⟨none, 0, 0, C, by simp [convert, run_underlying t25, run_underlying t9, run_underlying t5, Conv.bytesToString, loadCells, loadCellsFrom, bs]; rfl⟩
  · refine ⟨_, _, _, C, ?_⟩
    exact run_convert_bytes_back (P := Try.prog) w 89 9 5 ⟨g, 0, none⟩ cap l t25 t5 t9 (fun j hj => by
      have := h2.cells (g := g) rfl j (cb l[j]) (by simp [cbs, hj])
      exact this)
set_option maxHeartbeats 400000 in
set_option maxRecDepth 100000 in
theorem wstr_any {K : Nat → Prop} {w : World} {h : Nat} {l : List UInt8} (hw : Wr K w h l) :
    Calls Try.prog 48 #[.pointer (some ⟨h, 0, none⟩)] w fun e w' => e = .returned (.string (bs l)) ∧ w = w' := by
  obtain ⟨ad, n, cap, C, hc⟩ := conv_wr hw
  obtain ⟨sb, hsb⟩ : ∃ sb, sb = bs l := ⟨_, rfl⟩
  rw [← hsb] at hc ⊢
  clear hw hsb
  go_enter Try.func48, Try.ntmps48
  go_wp2
  go_ret
  exact ⟨rfl, rfl⟩
end Go.Proofs.Ytekeaoolodmdaaa
