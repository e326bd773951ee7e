import Derived.Test.YtlbclfponongbaaV1
/- The writer's bytes, texts and ids, and what it has. -/
namespace Go.Proofs.Ytlbclfponongbaa
open Go.RowKit
set_option maxHeartbeats 400000 in
set_option maxRecDepth 100000 in
theorem wraw_any {K : Nat → Prop} {w : World} {h : Nat} {l : List UInt8} (s : List UInt8) (b : Nat) (hw : Wr K w h l) (hc : w.cell? ⟨b, 0, none⟩ = some (.string (bs s))) (hl : l.length + s.length ≤ 140737488355328) :
    Calls Try.prog 21 #[.pointer (some ⟨h, 0, none⟩), .slice (some ⟨b, 0, none⟩) 1 1] w fun e w' => e = .returned (.tuple #[]) ∧ Wr K w' h (l ++ s) ∧ Keep K w w' := by
  obtain ⟨v, ad, n, cap, w', h1, hr, h2, hW', hK'⟩ := app_str hw s hl
  have C1 := cell_of_one h1
  have C2 := cell_of_one h2
  have F2 := free_of_one h2
  have R := Lib.hid (And.intro hW' hK')
  obtain ⟨sb, hsb⟩ : ∃ sb, sb = bs s := ⟨_, rfl⟩
  rw [← hsb] at hc hr
  clear hW' hK' hw h1 h2 hsb
  go_enter Try.func21, Try.ntmps21
  go_wp2
  refine wp_loop_rounds 2 ?_
  rw [rounds_succ]
  go_wp2_with (at_builtin; refine wpList_append_run rfl (.tmp 18) (.tmp 19) 53 9 rfl _ _ _ _ rfl rfl hr ?_)
  rw [rounds_succ]
  go_wp2
  go_end0
  exact ⟨rfl, R.out⟩
theorem wraw_none {K : Nat → Prop} {w : World} {h : Nat} {l : List UInt8} (hw : Wr K w h l) : Wr K w h (l ++ []) := by rw [List.append_nil]; exact hw
set_option maxHeartbeats 400000 in
set_option maxRecDepth 100000 in
theorem wtext_any {K : Nat → Prop} {w : World} {h : Nat} {l : List UInt8} (s : List UInt8) (b : Nat) (hw : Wr K w h l) (hc : w.cell? ⟨b, 0, none⟩ = some (.string (bs s))) (hl : l.length + s.length ≤ 1099511627770) :
    Calls Try.prog 22 #[.pointer (some ⟨h, 0, none⟩), .slice (some ⟨b, 0, none⟩) 1 1] w fun e w' => e = .returned (.tuple #[]) ∧ Wr K w' h (l ++ tx s) ∧ Keep K w w' := by
  obtain ⟨sb, hsb⟩ : ∃ sb, sb = bs s := ⟨_, rfl⟩
  have hz : sb.size = s.length := by rw [hsb, bs_size]
  rw [← hsb] at hc
  have H1 := wnum1_any (s.length : Int) w.heap.size (hw.alloc (.cells #[.int .i64 (s.length : Int)] 3)) (cell_of_one (heap_alloc_new _ _)) (by have := hw.lt; omega) (by omega)
  rw [← hz] at H1
  have hd := dg_le (clamp (s.length : Int)) 0 (by have := clamp_le (s.length : Int); omega) (by omega)
  have H2 : Hid (∀ w1 x : World, x = w1.alloc (.cells #[.string sb] 9) → Wr K w1 h (l ++ dg (clamp (sb.size : Int))) → Calls Try.prog 21 #[.pointer (some ⟨h, 0, none⟩), .slice (some ⟨w1.heap.size, 0, none⟩) 1 1] x fun e w' => e = .returned (.tuple #[]) ∧ Wr K w' h (l ++ tx s) ∧ Keep K w1 w') := by
    rintro w1 _ rfl h1
    refine (wraw_any s w1.heap.size (h1.alloc (.cells #[.string sb] 9)) (by rw [hsb]; exact cell_of_one (heap_alloc_new _ _)) (by rw [List.length_append, hz]; omega)).mono ?_
    rintro e w' ⟨rfl, g1, g2⟩
    rw [List.append_assoc, hz] at g1
    exact ⟨rfl, g1, ((Keep.refl K w1).alloc _).trans g2⟩
  have K0 : Hid (Keep K w (w.alloc (.cells #[.int .i64 (sb.size : Int)] 3))) := (Keep.refl K w).alloc _
  have HW := Lib.hid hw
  have HS := Lib.hid hsb
  clear hw hz hd hsb hl
  go_enter Try.func22, Try.ntmps22
  go_wp2
  refine wp_loop_rounds 2 ?_
  rw [rounds_succ]
  go_wp2_with fail
  refine H1.mono ?_
  rintro e w1 ⟨rfl, g1, g2⟩
  have G1 := Lib.hid g1
  have G2 := Lib.hid (K0.out.trans g2)
  clear g1 g2
  go_wp2_with fail
  refine (H2.out _ _ rfl G1.out).mono ?_
  rintro e w2 ⟨rfl, g1, g2⟩
  go_wp2
  rw [rounds_succ]
  go_wp2
  go_end0
  exact ⟨rfl, g1, G2.out.trans g2⟩
theorem wtext_nil_one (s : ByteArray) (b : Nat) (w : World) (hc : w.cell? ⟨b, 0, none⟩ = some (.string s)) :
    Calls Try.prog 22 #[.pointer none, .slice (some ⟨b, 0, none⟩) 1 1] w fun e w' => e = .returned (.tuple #[]) ∧ Below w.heap.size w w' := by
  go_enter Try.func22, Try.ntmps22
  go_wp2
  refine wp_loop_rounds 2 ?_
  rw [rounds_succ]
  go_wp2_with fail
  refine (wnum_nil _ _).mono ?_
  rintro e w1 ⟨rfl, rfl⟩
  go_wp2_with fail
  refine (wraw_nil _ _).mono ?_
  rintro e w1 ⟨rfl, rfl⟩
  go_wp2
  rw [rounds_succ]
  go_wp2
  go_end0
  exact ⟨rfl, ((Below.refl _ _).alloc (Nat.le_refl _) _).alloc (by simp) _⟩
end Go.Proofs.Ytlbclfponongbaa
