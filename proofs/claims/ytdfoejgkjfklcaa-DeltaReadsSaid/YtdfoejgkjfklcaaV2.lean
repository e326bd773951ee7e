import Derived.Test.YtdfoejgkjfklcaaV1
/- The writer's bytes, texts and ids, and what it has. -/
namespace Go.Proofs.Ytdfoejgkjfklcaa
open Go.RowKit
set_option maxHeartbeats 400000 in
set_option maxRecDepth 100000 in
theorem wraw_any {K : Nat → Prop} {w : World} {h : Nat} {l : List UInt8} (s : List UInt8) (b : Nat) (hw : Wr K w h l) (hc : w.cell? ⟨b, 0, none⟩ = some (.string (bs s))) (hl : l.length + s.length ≤ 140737488355328) :
    Calls Try.prog 54 #[.pointer (some ⟨h, 0, none⟩), .slice (some ⟨b, 0, none⟩) 1 1] w fun e w' => e = .returned (.tuple #[]) ∧ Wr K w' h (l ++ s) ∧ Keep K w w' := by
  obtain ⟨v, ad, n, cap, w', h1, hr, h2, hW', hK'⟩ := app_str hw s hl
  have C1 := cell_of_one h1
  have C2 := cell_of_one h2
  have F2 := free_of_one h2
  have R := Lib.hid (And.intro hW' hK')
  obtain ⟨sb, hsb⟩ : ∃ sb, sb = bs s := ⟨_, rfl⟩
  rw [← hsb] at hc hr
  clear hW' hK' hw h1 h2 hsb
  go_enter Try.func54, Try.ntmps54
  go_wp2
  refine wp_loop_rounds 2 ?_
  rw [rounds_succ]
  go_wp2_with (at_builtin; refine wpList_append_run rfl (.tmp 18) (.tmp 19) 66 9 rfl _ _ _ _ rfl rfl hr ?_)
  rw [rounds_succ]
  go_wp2
  go_end0
  exact ⟨rfl, R.out⟩
theorem wraw_none {K : Nat → Prop} {w : World} {h : Nat} {l : List UInt8} (hw : Wr K w h l) : Wr K w h (l ++ []) := by rw [List.append_nil]; exact hw
end Go.Proofs.Ytdfoejgkjfklcaa
