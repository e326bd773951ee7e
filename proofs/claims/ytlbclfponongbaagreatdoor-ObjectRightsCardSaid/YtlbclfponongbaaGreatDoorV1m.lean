import Derived.Test.YtlbclfponongbaaGreatDoorV0
import Derived.Test.YtlbclfponongbaaGreatDoorProg
import Derived.Lib.Hide
import Derived.WalkSpells
import Derived.WalkSmall
import Derived.Deep.Draws
import Derived.Deep.Cut
import Derived.Deep.WholeRow
import Derived.Deep.RegionLaw
/- The writer's numbers. -/
namespace Go.Proofs.YtlbclfponongbaaGreatDoor
open Go.RowKit
theorem app_byte {K : Nat → Prop} {w : World} {h : Nat} {l : List UInt8} (hw : Wr K w h l) (b : UInt8) (x : Int) (hx : x = b.toNat) (hlen : l.length + 1 ≤ 140737488355328) :
    ∃ v ad n cap w', w.cell? ⟨h, 0, none⟩ = some v ∧ (Builtin.append_ #[59, 59] 59 #[v, .slice (some ⟨w.heap.size, 0, none⟩) 1 1]).run Tryz.prog (w.alloc (.cells #[.int .u8 x] 5)) = .ok (.slice ad n cap) w' ∧
      w'.cell? ⟨h, 0, none⟩ = some v ∧ w'.frozen? ⟨h, 0, none⟩ = false ∧ Wr K (w'.setCell ⟨h, 0, none⟩ (.slice ad n cap)) h (l ++ [b]) ∧ Keep K w (w'.setCell ⟨h, 0, none⟩ (.slice ad n cap)) := by
  subst hx
  obtain ⟨v, ad, n, cap, w', h1, hr, h2, h3, h4⟩ := app_blk (hw.alloc (.cells #[.int .u8 b.toNat] 5)) [b] w.heap.size 5 1 1 (0, 0) hlen (by rw [heap_alloc_new]; rfl) rfl
  rw [heap_alloc_old _ _ hw.lt] at h1
  exact ⟨v, ad, n, cap, w', cell_of_one h1, hr, cell_of_one h2, free_of_one h2, h3, ((Keep.refl K w).alloc _).trans h4⟩
set_option maxHeartbeats 400000 in
set_option maxRecDepth 100000 in
theorem wnum_any {K : Nat → Prop} {w : World} {h : Nat} {l : List UInt8} (n : Nat) (hw : Wr K w h l) (hn : n ≤ 1099511627775) (hl : l.length ≤ 1099511627776) :
    Calls Tryz.prog 62 #[.pointer (some ⟨h, 0, none⟩), .int .i64 n] w fun e w' => e = .returned (.tuple #[]) ∧ Wr K w' h (l ++ dg n) ∧ Keep K w w' := by
  go_enter Tryz.func62, Tryz.ntmps62
  go_wp2
  go_loopw [1] (fun i wr => ∃ (m : Nat) (pre : List UInt8), i = .int .i64 m ∧ m ≤ n ∧ Hid (pre ++ dg m = dg n) ∧ Wr K wr h (l ++ pre) ∧ Keep K w wr) (fun i _ => (intOf i).toNat)
  case atStart => exact ⟨n, [], rfl, Nat.le_refl _, rfl, by rw [List.append_nil]; exact hw, Keep.refl _ _⟩
  case round =>
    obtain ⟨m, pre, rfl, hm, hd, hW, hK⟩ := hrel
    have hpl : pre.length ≤ 6 := by
      have h1 := congrArg List.length hd.out
      rw [List.length_append] at h1
      have h2 := dg_le n 0 (by omega) (by omega)
      omega
    by_cases c : m < 128
    · obtain ⟨v, ad, z, cap, w', C1, hr, C2, F2, hW', hK'⟩ := app_byte hW (UInt8.ofNat m) m (by rw [ofNat_toNat_small (by omega)]) (by simp; omega)
      have R := Lib.hid (And.intro hW' (hK.trans hK'))
      have c1 : decide ((128 : Int) ≤ (m : Int)) = false := by simp; omega
      have c2 : (m : Int) < 128 := by omega
      clear hW' hK' hW hK hpl
      go_wp2_with (at_builtin; refine wpList_append_run rfl (.tmp 25) (.tmp 28) 59 59 rfl _ _ _ _ rfl rfl hr ?_)
      have hd2 := hd.out
      rw [dg_low c] at hd2
      rw [List.append_assoc, hd2] at R
      go_end0
      exact ⟨rfl, R.out⟩
    · have hdg : pre ++ [UInt8.ofNat (m % 128 + 128)] ++ dg (m / 128) = dg n := by
        rw [← hd.out, dg_high c]; simp
      have e1 : (m : Int).tmod 128 = (m : Int) % 128 := Int.tmod_eq_emod_of_nonneg (by omega)
      have e2 : (m : Int).tdiv 128 = ((m / 128 : Nat) : Int) := by rw [Int.tdiv_eq_ediv_of_nonneg (by omega)]; omega
      obtain ⟨v, ad, z, cap, w', C1, hr, C2, F2, hW', hK'⟩ := app_byte hW (UInt8.ofNat (m % 128 + 128)) ((m : Int) % 128 + 128) (by rw [ofNat_toNat_small (by omega)]; omega) (by simp; omega)
      have R := Lib.hid (And.intro hW' (hK.trans hK'))
      have c1 : (128 : Int) ≤ (m : Int) := by omega
      have Hd := Lib.hid hdg
      clear hW' hK' hW hK hpl hdg
      go_wp2_with (at_builtin; refine wpList_append_run rfl (.tmp 10) (.tmp 15) 59 59 rfl _ _ _ _ rfl rfl hr ?_)
      go_roundw
      case rel => exact ⟨m / 128, pre ++ [UInt8.ofNat (m % 128 + 128)], by go_num, by omega, Hd.out, by rw [← List.append_assoc]; exact R.out.1, R.out.2⟩
      case measure => simp [intOf]; omega
/- what a slice of values says: element i is what f tells -/
def Vals (w : World) (v : Value) (len : Nat) (f : Nat → Value) : Prop :=
  ∃ ad cap, v = .slice ad len cap ∧ (0 < len → ∃ b o, ad = some ⟨b, o, none⟩ ∧ ∀ i, i < len → w.cell? ⟨b, o + i, none⟩ = some (f i))
/- the numbers of a list, one behind the other -/
def dgs (ns : Nat → Int) : Nat → List UInt8
  | 0 => []
  | k + 1 => dgs ns k ++ dg (clamp (ns k))
theorem clamp_int (n : Int) : min (max n 0) 1099511627775 = ((clamp n : Nat) : Int) := by unfold clamp; omega
set_option maxHeartbeats 400000 in
set_option maxRecDepth 100000 in
theorem wnum1_any {K : Nat → Prop} {w : World} {h : Nat} {l : List UInt8} (n : Int) (b : Nat) (hw : Wr K w h l) (hc : w.cell? ⟨b, 0, none⟩ = some (.int .i64 n)) (hb : b ≠ h) (hl : l.length ≤ 1099511627776) :
    Calls Tryz.prog 44 #[.pointer (some ⟨h, 0, none⟩), .slice (some ⟨b, 0, none⟩) 1 1] w fun e w' => e = .returned (.tuple #[]) ∧ Wr K w' h (l ++ dg (clamp n)) ∧ Keep K w w' := by
  have H : Hid (∀ x : Int, x = ((clamp n : Nat) : Int) → Calls Tryz.prog 62 #[.pointer (some ⟨h, 0, none⟩), .int .i64 x] w fun e w' => e = .returned (.tuple #[]) ∧ Wr K w' h (l ++ dg (clamp n)) ∧ Keep K w w') := by
    rintro _ rfl
    exact wnum_any (clamp n) hw (clamp_le n) hl
  go_enter Tryz.func44, Tryz.ntmps44
  go_wp2
  refine wp_loop_rounds 2 ?_
  rw [rounds_succ]
  go_wp2_with fail
  all_goals (refine (H.out _ (by unfold clamp; omega)).mono ?_)
  all_goals (rintro e w1 ⟨rfl, h1, h2⟩)
  all_goals go_wp2
  all_goals rw [rounds_succ]
  all_goals go_wp2
  all_goals go_end0
  all_goals exact ⟨rfl, h1, h2⟩
/- a nil writer -/
theorem wnum_nil (v : Value) (w : World) : Calls Tryz.prog 44 #[.pointer none, v] w fun e w' => e = .returned (.tuple #[]) ∧ w = w' := by
  go_enter Tryz.func44, Tryz.ntmps44
  go_wp2
  exact bodyPost_ret (results_none rfl _ _ _) rfl ⟨rfl, rfl⟩
theorem wid_nil (v : Value) (w : World) : Calls Tryz.prog 45 #[.pointer none, v] w fun e w' => e = .returned (.tuple #[]) ∧ w = w' := by
  go_enter Tryz.func45, Tryz.ntmps45
  go_wp2
  exact bodyPost_ret (results_none rfl _ _ _) rfl ⟨rfl, rfl⟩
theorem wraw_nil (v : Value) (w : World) : Calls Tryz.prog 22 #[.pointer none, v] w fun e w' => e = .returned (.tuple #[]) ∧ w = w' := by
  go_enter Tryz.func22, Tryz.ntmps22
  go_wp2
  exact bodyPost_ret (results_none rfl _ _ _) rfl ⟨rfl, rfl⟩
theorem wstr_nil (w : World) : Calls Tryz.prog 24 #[.pointer none] w fun e w' => e = .returned (.string ⟨#[]⟩) ∧ w = w' := by
  go_enter Tryz.func24, Tryz.ntmps24
  go_wp2
  go_ret
  exact ⟨rfl, rfl⟩
end Go.Proofs.YtlbclfponongbaaGreatDoor
/- The writer's bytes, texts and ids, and what it has. -/
namespace Go.Proofs.YtlbclfponongbaaGreatDoor
open Go.RowKit
set_option maxHeartbeats 400000 in
set_option maxRecDepth 100000 in
theorem wraw_any {K : Nat → Prop} {w : World} {h : Nat} {l : List UInt8} (s : List UInt8) (b : Nat) (hw : Wr K w h l) (hc : w.cell? ⟨b, 0, none⟩ = some (.string (bs s))) (hl : l.length + s.length ≤ 140737488355328) :
    Calls Tryz.prog 22 #[.pointer (some ⟨h, 0, none⟩), .slice (some ⟨b, 0, none⟩) 1 1] w fun e w' => e = .returned (.tuple #[]) ∧ Wr K w' h (l ++ s) ∧ Keep K w w' := by
  obtain ⟨v, ad, n, cap, w', h1, hr, h2, hW', hK'⟩ := app_str hw s hl
  have C1 := cell_of_one h1
  have C2 := cell_of_one h2
  have F2 := free_of_one h2
  have R := Lib.hid (And.intro hW' hK')
  obtain ⟨sb, hsb⟩ : ∃ sb, sb = bs s := ⟨_, rfl⟩
  rw [← hsb] at hc hr
  clear hW' hK' hw h1 h2 hsb
  go_enter Tryz.func22, Tryz.ntmps22
  go_wp2
  refine wp_loop_rounds 2 ?_
  rw [rounds_succ]
  go_wp2_with (at_builtin; refine wpList_append_run rfl (.tmp 18) (.tmp 19) 59 9 rfl _ _ _ _ rfl rfl hr ?_)
  rw [rounds_succ]
  go_wp2
  go_end0
  exact ⟨rfl, R.out⟩
theorem wraw_none {K : Nat → Prop} {w : World} {h : Nat} {l : List UInt8} (hw : Wr K w h l) : Wr K w h (l ++ []) := by rw [List.append_nil]; exact hw
set_option maxHeartbeats 400000 in
set_option maxRecDepth 100000 in
theorem wtext_any {K : Nat → Prop} {w : World} {h : Nat} {l : List UInt8} (s : List UInt8) (b : Nat) (hw : Wr K w h l) (hc : w.cell? ⟨b, 0, none⟩ = some (.string (bs s))) (hl : l.length + s.length ≤ 1099511627770) :
    Calls Tryz.prog 23 #[.pointer (some ⟨h, 0, none⟩), .slice (some ⟨b, 0, none⟩) 1 1] w fun e w' => e = .returned (.tuple #[]) ∧ Wr K w' h (l ++ tx s) ∧ Keep K w w' := by
  obtain ⟨sb, hsb⟩ : ∃ sb, sb = bs s := ⟨_, rfl⟩
  have hz : sb.size = s.length := by rw [hsb, bs_size]
  rw [← hsb] at hc
  have H1 := wnum1_any (s.length : Int) w.heap.size (hw.alloc (.cells #[.int .i64 (s.length : Int)] 3)) (cell_of_one (heap_alloc_new _ _)) (by have := hw.lt; omega) (by omega)
  rw [← hz] at H1
  have hd := dg_le (clamp (s.length : Int)) 0 (by have := clamp_le (s.length : Int); omega) (by omega)
  have H2 : Hid (∀ w1 x : World, x = w1.alloc (.cells #[.string sb] 9) → Wr K w1 h (l ++ dg (clamp (sb.size : Int))) → Calls Tryz.prog 22 #[.pointer (some ⟨h, 0, none⟩), .slice (some ⟨w1.heap.size, 0, none⟩) 1 1] x fun e w' => e = .returned (.tuple #[]) ∧ Wr K w' h (l ++ tx s) ∧ Keep K w1 w') := by
    rintro w1 _ rfl h1
    refine (wraw_any s w1.heap.size (h1.alloc (.cells #[.string sb] 9)) (by rw [hsb]; exact cell_of_one (heap_alloc_new _ _)) (by rw [List.length_append, hz]; omega)).mono ?_
    rintro e w' ⟨rfl, g1, g2⟩
    rw [List.append_assoc, hz] at g1
    exact ⟨rfl, g1, ((Keep.refl K w1).alloc _).trans g2⟩
  have K0 : Hid (Keep K w (w.alloc (.cells #[.int .i64 (sb.size : Int)] 3))) := (Keep.refl K w).alloc _
  have HW := Lib.hid hw
  have HS := Lib.hid hsb
  clear hw hz hd hsb hl
  go_enter Tryz.func23, Tryz.ntmps23
  go_wp2
  refine wp_loop_rounds 2 ?_
  rw [rounds_succ]
  go_wp2_with fail
  refine H1.mono ?_
  rintro e w1 ⟨rfl, g1, g2⟩
  have G1 := Lib.hid g1
  have G2 := Lib.hid (K0.out.trans g2)
  clear g1 g2
  go_wp2_with fail
  refine (H2.out _ _ rfl G1.out).mono ?_
  rintro e w2 ⟨rfl, g1, g2⟩
  go_wp2
  rw [rounds_succ]
  go_wp2
  go_end0
  exact ⟨rfl, g1, G2.out.trans g2⟩
theorem wtext_nil_one (s : ByteArray) (b : Nat) (w : World) (hc : w.cell? ⟨b, 0, none⟩ = some (.string s)) :
    Calls Tryz.prog 23 #[.pointer none, .slice (some ⟨b, 0, none⟩) 1 1] w fun e w' => e = .returned (.tuple #[]) ∧ Below w.heap.size w w' := by
  go_enter Tryz.func23, Tryz.ntmps23
  go_wp2
  refine wp_loop_rounds 2 ?_
  rw [rounds_succ]
  go_wp2_with fail
  refine (wnum_nil _ _).mono ?_
  rintro e w1 ⟨rfl, rfl⟩
  go_wp2_with fail
  refine (wraw_nil _ _).mono ?_
  rintro e w1 ⟨rfl, rfl⟩
  go_wp2
  rw [rounds_succ]
  go_wp2
  go_end0
  exact ⟨rfl, ((Below.refl _ _).alloc (Nat.le_refl _) _).alloc (by simp) _⟩
end Go.Proofs.YtlbclfponongbaaGreatDoor
/- The writer's ids, and what it has. -/
namespace Go.Proofs.YtlbclfponongbaaGreatDoor
open Go.RowKit
def bv (f : Nat → UInt8) (i : Nat) : Value := cb (f i)
def idL (f : Nat → UInt8) : List UInt8 := (List.range 32).map f
theorem idL_length (f : Nat → UInt8) : (idL f).length = 32 := by simp [idL]
theorem idL_arr (f : Nat → UInt8) : (cbs (idL f)).toArray = arr 32 (bv f) := by
  apply Array.ext_getElem?
  intro i
  by_cases hi : i < 32
  · rw [arr_get _ _ _ hi]
    simp [cbs, idL, hi, bv]
  · rw [Array.getElem?_eq_none (by simp [cbs, idL]; omega), Array.getElem?_eq_none (by rw [arr_size]; omega)]
theorem ty30 : Tryz.prog.underlying 29 = some (.array 32 5) := by kernel_rfl
theorem sz30 : (Tryz.prog.info? 29).map (·.size) = some 32 := by kernel_rfl
theorem conv_wr {K : Nat → Prop} {w : World} {h : Nat} {l : List UInt8} (hw : Wr K w h l) : ∃ ad n cap, w.cell? ⟨h, 0, none⟩ = some (.slice ad n cap) ∧ (convert 59 9 (.slice ad n cap)).run Tryz.prog w = .ok (.string (bs l)) w := by
  obtain ⟨_, v, h1, h2, _, _⟩ := hw
  have C := cell_of_one h1
  rcases h2.2 with ⟨rfl, hz⟩ | ⟨g, cap, cur, rfl, _⟩
  · have hl : l = [] := List.eq_nil_of_length_eq_zero hz
    subst hl
    exact ⟨none, 0, 0, C, by simp [convert, run_underlying t25, run_underlying t9, run_underlying t5, Conv.bytesToString, loadCells, loadCellsFrom, bs]; rfl⟩
  · refine ⟨_, _, _, C, ?_⟩
    exact run_convert_bytes_back (P := Tryz.prog) w 59 9 5 ⟨g, 0, none⟩ cap l t25 t5 t9 (fun j hj => by
      have := h2.cells (g := g) rfl j (cb l[j]) (by simp [cbs, hj])
      exact this)
set_option maxHeartbeats 400000 in
set_option maxRecDepth 100000 in
theorem wstr_any {K : Nat → Prop} {w : World} {h : Nat} {l : List UInt8} (hw : Wr K w h l) :
    Calls Tryz.prog 24 #[.pointer (some ⟨h, 0, none⟩)] w fun e w' => e = .returned (.string (bs l)) ∧ w = w' := by
  obtain ⟨ad, n, cap, C, hc⟩ := conv_wr hw
  obtain ⟨sb, hsb⟩ : ∃ sb, sb = bs l := ⟨_, rfl⟩
  rw [← hsb] at hc ⊢
  clear hw hsb
  go_enter Tryz.func24, Tryz.ntmps24
  go_wp2
  go_ret
  exact ⟨rfl, rfl⟩
set_option maxHeartbeats 400000 in
set_option maxRecDepth 100000 in
theorem wid_any {K : Nat → Prop} {w : World} {h : Nat} {l : List UInt8} (f : Nat → UInt8) (b E : Nat) (hw : Wr K w h l) (hB : Blk w b E 32 (bv f)) (hl : l.length ≤ 1099511627776) :
    Calls Tryz.prog 45 #[.pointer (some ⟨h, 0, none⟩), .slice (some ⟨b, 0, none⟩) 1 1] w fun e w' => e = .returned (.tuple #[]) ∧ Wr K w' h (l ++ idL f) ∧ Keep K w w' := by
  have hw2 := (hw.alloc (.cells (arr 32 (bv f)) 29)).drew
  obtain ⟨v, ad, n, cap, w', h1, hr, h2, hW', hK'⟩ := app_blk hw2 (idL f) w.heap.size 29 32 32 (0, 0) (by rw [idL_length]; omega) (by rw [heap_drew, heap_alloc_new, idL_arr]) (idL_length f).symm
  have C1 := cell_of_one h1
  have C2 := cell_of_one h2
  have F2 := free_of_one h2
  have R := Lib.hid (And.intro hW' (((Keep.refl K w).alloc _).drew.trans hK'))
  clear hW' hK' hw hw2 h1 h2 hl
  go_enter Tryz.func45, Tryz.ntmps45
  go_wp2
  refine wp_loop_rounds 2 ?_
  rw [rounds_succ]
  go_wp2_with (first | (refine wpList_load_blk rfl 29 (.tmp 12) rfl b rfl E 32 (bv f) hB _ ty30 rfl sz30 ?_) | (refine wpList_store_blk rfl 29 (.tmp 5) (.tmp 13) rfl w.heap.size 32 (bv f) (bv fun _ => 0) rfl rfl 29 (Blk.newAt _ (heap_alloc_new _ _) rfl) sz30 (fun _ _ => rfl) ?_))
  rw [World.setRow_alloc_new]
  generalize w.alloc (.cells (arr 32 (bv f)) 29) = w2 at C1 hr ⊢
  generalize w.heap.size = z at hr ⊢
  go_region_law (refine step_append_run rfl (.tmp 18) (.tmp 19) 59 59 rfl v (.slice (some ⟨z, 0, none⟩) 32 32) _ _ rfl rfl hr ?_)
  all_goals go_wp2
  all_goals rw [rounds_succ]
  all_goals go_wp2
  all_goals go_end0
  all_goals exact ⟨rfl, R.out⟩
end Go.Proofs.YtlbclfponongbaaGreatDoor
