import Derived.Test.YtmcaapgcplhhmaaN1
/- What stands through SketchOrder's loops. -/
namespace Go.Proofs.Ytmcaapgcplhhmaa
open Go.RowKit
attribute [local go_sem] run_store_complex
theorem strs_at {w : World} {ad : Option Addr} {n cap : Nat} {ss : Nat → ByteArray} (h : Strs w (.slice ad n cap) ss n) (hn : 0 < n) : ∃ b o, ad = some ⟨b, o, none⟩ ∧ b < w.heap.size ∧ ∀ i, i < n → w.cell? ⟨b, o + i, none⟩ = some (.string (ss i)) := by
  rcases h with ⟨_, _, h1, h2⟩ | ⟨_, _, _, h1, h2, h3, h4⟩
  · omega
  · cases h1
    exact ⟨_, _, rfl, h3, h4⟩
/- what stands through the loops -/
structure PO (w : World) (gs : Nat → Nat → Int) (p : Nat → Nat) (ss : Nat → ByteArray) (a o v : Value) (len : Nat) (W : World) : Prop where
  ra : Row W a 4 (skc gs) len
  ro : Row W o 1 (inc p) len
  st : Strs W v ss len
  lo : Below w.heap.size w W
theorem PO.keep {w : World} {gs : Nat → Nat → Int} {p : Nat → Nat} {ss : Nat → ByteArray} {a o v : Value} {len : Nat} {W w' : World} (h : PO w gs p ss a o v len W) (hb : Below W.heap.size W w') : PO w gs p ss a o v len w' :=
  ⟨h.ra.below hb, h.ro.below hb, h.st.below hb, h.lo.trans (hb.mono h.lo.size)⟩
abbrev SI (w0 : World) (bo oo i : Nat) (X : Int) (ba oa x : Nat) (h : Nat → Int) (bl_ ol : Nat) (sx : ByteArray) (W : World) : Prop := W.cell? ⟨bo, oo + i, none⟩ = some (.int .i64 X) ∧ (W.cell? ⟨ba, oa + x * 4, none⟩ = some (.complex .f64 (FB (h 0)) (FB (h 1))) ∧ W.cell? ⟨ba, oa + x * 4 + 1, none⟩ = some (.complex .f64 (FB (h 2)) (FB (h 3))) ∧ W.cell? ⟨ba, oa + x * 4 + 2, none⟩ = some (.complex .f64 (FB (h 4)) (FB (h 5))) ∧ W.cell? ⟨ba, oa + x * 4 + 3, none⟩ = some (.complex .f64 (FB (h 6)) (FB (h 7)))) ∧ W.cell? ⟨bl_, ol + x, none⟩ = some (.string sx) ∧ Below w0.heap.size w0 W
theorem SI.keep {w0 W w' : World} {bo oo i : Nat} {X : Int} {ba oa x : Nat} {h : Nat → Int} {bl_ ol : Nat} {sx : ByteArray} (s : SI w0 bo oo i X ba oa x h bl_ ol sx W) (hb : Below W.heap.size W w') : SI w0 bo oo i X ba oa x h bl_ ol sx w' := by
  obtain ⟨h1, h2, h3, h4⟩ := s
  exact ⟨by rw [hb.cell (block_lt_of_cell h1)]; exact h1, cells4_keep h2 hb, by rw [hb.cell (block_lt_of_cell h3)]; exact h3, h4.trans (hb.mono h4.size)⟩
theorem SI.alloc {w0 W : World} {bo oo i : Nat} {X : Int} {ba oa x : Nat} {h : Nat → Int} {bl_ ol : Nat} {sx : ByteArray} (s : SI w0 bo oo i X ba oa x h bl_ ol sx W) (o : Obj) : SI w0 bo oo i X ba oa x h bl_ ol sx (W.alloc o) := s.keep ((Below.refl _ _).alloc (Nat.le_refl _) o)
abbrev SZ (w0 : World) (bo oo ba oa : Nat) (h : Nat → Int) (bl_ ol : Nat) (sx : ByteArray) (W : World) : Prop := W.cell? ⟨bo, oo, none⟩ = some (.int .i64 0) ∧ (W.cell? ⟨ba, oa, none⟩ = some (.complex .f64 (FB (h 0)) (FB (h 1))) ∧ W.cell? ⟨ba, oa + 1, none⟩ = some (.complex .f64 (FB (h 2)) (FB (h 3))) ∧ W.cell? ⟨ba, oa + 2, none⟩ = some (.complex .f64 (FB (h 4)) (FB (h 5))) ∧ W.cell? ⟨ba, oa + 3, none⟩ = some (.complex .f64 (FB (h 6)) (FB (h 7)))) ∧ W.cell? ⟨bl_, ol, none⟩ = some (.string sx) ∧ Below w0.heap.size w0 W
theorem SZ.keep {w0 W w' : World} {bo oo : Nat} {ba oa : Nat} {h : Nat → Int} {bl_ ol : Nat} {sx : ByteArray} (s : SZ w0 bo oo ba oa h bl_ ol sx W) (hb : Below W.heap.size W w') : SZ w0 bo oo ba oa h bl_ ol sx w' := by
  obtain ⟨h1, h2, h3, h4⟩ := s
  exact ⟨by rw [hb.cell (block_lt_of_cell h1)]; exact h1, cells4_keep h2 hb, by rw [hb.cell (block_lt_of_cell h3)]; exact h3, h4.trans (hb.mono h4.size)⟩
theorem SZ.alloc {w0 W : World} {bo oo : Nat} {ba oa : Nat} {h : Nat → Int} {bl_ ol : Nat} {sx : ByteArray} (s : SZ w0 bo oo ba oa h bl_ ol sx W) (o : Obj) : SZ w0 bo oo ba oa h bl_ ol sx (W.alloc o) := s.keep ((Below.refl _ _).alloc (Nat.le_refl _) o)
abbrev SY (w0 : World) (bo oo j n m y x u ba oa : Nat) (hu hy hx : Nat → Int) (W : World) : Prop := W.cell? ⟨bo, oo + j, none⟩ = some (.int .i64 (y : Int)) ∧ W.cell? ⟨bo, oo + n, none⟩ = some (.int .i64 (x : Int)) ∧ W.cell? ⟨bo, oo + m, none⟩ = some (.int .i64 (u : Int)) ∧ (W.cell? ⟨ba, oa + u * 4, none⟩ = some (.complex .f64 (FB (hu 0)) (FB (hu 1))) ∧ W.cell? ⟨ba, oa + u * 4 + 1, none⟩ = some (.complex .f64 (FB (hu 2)) (FB (hu 3))) ∧ W.cell? ⟨ba, oa + u * 4 + 2, none⟩ = some (.complex .f64 (FB (hu 4)) (FB (hu 5))) ∧ W.cell? ⟨ba, oa + u * 4 + 3, none⟩ = some (.complex .f64 (FB (hu 6)) (FB (hu 7)))) ∧ (W.cell? ⟨ba, oa + y * 4, none⟩ = some (.complex .f64 (FB (hy 0)) (FB (hy 1))) ∧ W.cell? ⟨ba, oa + y * 4 + 1, none⟩ = some (.complex .f64 (FB (hy 2)) (FB (hy 3))) ∧ W.cell? ⟨ba, oa + y * 4 + 2, none⟩ = some (.complex .f64 (FB (hy 4)) (FB (hy 5))) ∧ W.cell? ⟨ba, oa + y * 4 + 3, none⟩ = some (.complex .f64 (FB (hy 6)) (FB (hy 7)))) ∧ (W.cell? ⟨ba, oa + x * 4, none⟩ = some (.complex .f64 (FB (hx 0)) (FB (hx 1))) ∧ W.cell? ⟨ba, oa + x * 4 + 1, none⟩ = some (.complex .f64 (FB (hx 2)) (FB (hx 3))) ∧ W.cell? ⟨ba, oa + x * 4 + 2, none⟩ = some (.complex .f64 (FB (hx 4)) (FB (hx 5))) ∧ W.cell? ⟨ba, oa + x * 4 + 3, none⟩ = some (.complex .f64 (FB (hx 6)) (FB (hx 7)))) ∧ Below w0.heap.size w0 W
theorem SY.keep {w0 W w' : World} {bo oo j n m y x u ba oa : Nat} {hu hy hx : Nat → Int} (s : SY w0 bo oo j n m y x u ba oa hu hy hx W) (hb : Below W.heap.size W w') : SY w0 bo oo j n m y x u ba oa hu hy hx w' := by
  obtain ⟨h1, h2, h3, h4, h5, h6, h7⟩ := s
  exact ⟨by rw [hb.cell (block_lt_of_cell h1)]; exact h1, by rw [hb.cell (block_lt_of_cell h2)]; exact h2, by rw [hb.cell (block_lt_of_cell h3)]; exact h3, cells4_keep h4 hb, cells4_keep h5 hb, cells4_keep h6 hb, h7.trans (hb.mono h7.size)⟩
theorem row_cells {w : World} {b o m n cap : Nat} {c : Nat → Value} (h : Row w (.slice (some ⟨b, o, none⟩) n cap) m c n) (hn : 0 < n) : ∀ i, i < n * m → w.cell? ⟨b, o + i, none⟩ = some (c i) := by
  obtain ⟨b', o', e, _, hc⟩ := row_at h hn
  cases e
  exact hc
theorem of_on (s : ByteArray) (hs : s.size ≤ 1048576) (W : World) : Calls Try.prog 11 #[.slice (some ⟨W.heap.size, 0, none⟩) 1 1] (W.alloc (.cells #[.string s] 9)) fun e w' => e = .returned (SV (sk (bl s))) ∧ Below W.heap.size W w' := by
  have h := of_any (oneS s) _ 1 _ (by omega) (by rw [one_pre, bl_len]; exact hs) (strs_new W #[.string s] 9 (oneS s) 1 W.heap.size rfl (by decide) (one_cells s))
  rw [one_pre] at h
  exact h.mono fun e w' ⟨h1, h2⟩ => ⟨h1, alloc_below h2⟩
end Go.Proofs.Ytmcaapgcplhhmaa
