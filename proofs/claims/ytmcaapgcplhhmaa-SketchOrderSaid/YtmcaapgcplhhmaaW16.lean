import Derived.Test.YtmcaapgcplhhmaaW15
/- alive. -/
namespace Go.Proofs.Ytmcaapgcplhhmaa
open Go.RowKit
attribute [local go_sem] run_store_complex
/- a block of one sketch -/
abbrev C4 (W : World) (b o : Nat) (g : Nat → Int) : Prop := W.cell? ⟨b, o, none⟩ = some (.complex .f64 (FB (g 0)) (FB (g 1))) ∧ W.cell? ⟨b, o + 1, none⟩ = some (.complex .f64 (FB (g 2)) (FB (g 3))) ∧ W.cell? ⟨b, o + 2, none⟩ = some (.complex .f64 (FB (g 4)) (FB (g 5))) ∧ W.cell? ⟨b, o + 3, none⟩ = some (.complex .f64 (FB (g 6)) (FB (g 7)))
theorem C4.keep {W w' : World} {b o : Nat} {g : Nat → Int} (h : C4 W b o g) (hb : Below W.heap.size W w') : C4 w' b o g := by
  obtain ⟨h0, h1, h2, h3⟩ := h
  have e := fun j => hb.cell (p := ⟨b, j, none⟩) (show b < W.heap.size from block_lt_of_cell h0)
  exact ⟨by rw [e]; exact h0, by rw [e]; exact h1, by rw [e]; exact h2, by rw [e]; exact h3⟩
theorem C4.new (w : World) (g : Nat → Int) : C4 (w.alloc (.cells #[.complex .f64 (FB (g 0)) (FB (g 1)), .complex .f64 (FB (g 2)) (FB (g 3)), .complex .f64 (FB (g 4)) (FB (g 5)), .complex .f64 (FB (g 6)) (FB (g 7))] 28)) w.heap.size 0 g := by
  have h := Blk.new w _ 28 4 _ (sv_arr g)
  exact ⟨h.cell 0 (by omega), h.cell 1 (by omega), h.cell 2 (by omega), h.cell 3 (by omega)⟩
abbrev SA (w : World) (b : Nat) (g : Nat → Int) (W : World) : Prop := W.cell? ⟨b, 0, none⟩ = some (.complex .f64 (FB (g 0)) (FB (g 1))) ∧ W.cell? ⟨b, 1, none⟩ = some (.complex .f64 (FB (g 2)) (FB (g 3))) ∧ W.cell? ⟨b, 2, none⟩ = some (.complex .f64 (FB (g 4)) (FB (g 5))) ∧ W.cell? ⟨b, 3, none⟩ = some (.complex .f64 (FB (g 6)) (FB (g 7))) ∧ Below w.heap.size w W
theorem SA.keep {w W w' : World} {b : Nat} {g : Nat → Int} (h : SA w b g W) (hb : Below W.heap.size W w') : SA w b g w' := by
  obtain ⟨h0, h1, h2, h3, h4⟩ := h
  have e := fun j => hb.cell (p := ⟨b, j, none⟩) (show b < W.heap.size from block_lt_of_cell h0)
  exact ⟨by rw [e]; exact h0, by rw [e]; exact h1, by rw [e]; exact h2, by rw [e]; exact h3, h4.trans (hb.mono h4.size)⟩
theorem SA.alloc {w W : World} {b : Nat} {g : Nat → Int} (h : SA w b g W) (o : Obj) : SA w b g (W.alloc o) := h.keep ((Below.refl _ _).alloc (Nat.le_refl _) o)
abbrev SB (w : World) (b : Nat) (g : Nat → Int) (l : Value) (p : Nat → Nat) (W : World) : Prop := W.cell? ⟨b, 0, none⟩ = some (.complex .f64 (FB (g 0)) (FB (g 1))) ∧ W.cell? ⟨b, 1, none⟩ = some (.complex .f64 (FB (g 2)) (FB (g 3))) ∧ W.cell? ⟨b, 2, none⟩ = some (.complex .f64 (FB (g 4)) (FB (g 5))) ∧ W.cell? ⟨b, 3, none⟩ = some (.complex .f64 (FB (g 6)) (FB (g 7))) ∧ Below w.heap.size w W ∧ Row W l 1 (inc p) 3
theorem SB.keep {w W w' : World} {b : Nat} {g : Nat → Int} {l : Value} {p : Nat → Nat} (h : SB w b g l p W) (hb : Below W.heap.size W w') : SB w b g l p w' := by
  obtain ⟨h0, h1, h2, h3, h4, h5⟩ := h
  have e := fun j => hb.cell (p := ⟨b, j, none⟩) (show b < W.heap.size from block_lt_of_cell h0)
  exact ⟨by rw [e]; exact h0, by rw [e]; exact h1, by rw [e]; exact h2, by rw [e]; exact h3, h4.trans (hb.mono h4.size), h5.below hb⟩
theorem SB.alloc {w W : World} {b : Nat} {g : Nat → Int} {l : Value} {p : Nat → Nat} (h : SB w b g l p W) (o : Obj) : SB w b g l p (W.alloc o) := h.keep ((Below.refl _ _).alloc (Nat.le_refl _) o)
theorem SB.row {w W : World} {b : Nat} {g : Nat → Int} {l : Value} {p : Nat → Nat} (h : SB w b g l p W) : Row W l 1 (inc p) 3 := h.2.2.2.2.2
def zS : ByteArray := ⟨#[122, 122, 122, 122]⟩
def aS : ByteArray := ⟨#[0, 4]⟩
def three (a z : Nat → Int) (i : Nat) : Nat → Int := if i = 1 then z else a
theorem alive_far : far (sk (bl aS)) (sk []) = 4 := by decide +kernel
theorem alive_pl : pl (dist (three (sk (bl aS)) (sk (bl zS)))) 3 0 = 0 ∧ pl (dist (three (sk (bl aS)) (sk (bl zS)))) 3 1 = 2 ∧ pl (dist (three (sk (bl aS)) (sk (bl zS)))) 3 2 = 1 := by decide +kernel
theorem alive_4 : FB (sk (bl aS) 0) = 4616189618054758400 := by decide +kernel
set_option maxHeartbeats 8000000 in
theorem alive_any (w : World) : Calls Try.prog 8 #[] w fun e w' => e = .returned (.bool true) ∧ Below w.heap.size w w' := by
  have oa : Ok (sk (bl aS)) := Ok.sk (by decide)
  have oz : Ok (sk (bl zS)) := Ok.sk (by decide)
  have A1 : ∀ W : World, Calls Try.prog 11 #[.slice (some ⟨W.heap.size, 0, none⟩) 1 1] (W.alloc (.cells #[.string ⟨#[0, 4]⟩] 9)) fun e w' => e = .returned (SV (sk (bl aS))) ∧ Below W.heap.size W w' := fun W => by
    have h := of_any (oneS aS) _ 1 _ (by omega) (by decide) (strs_new W #[.string aS] 9 (oneS aS) 1 W.heap.size rfl (by decide) (one_cells aS))
    rw [one_pre] at h
    exact h.mono fun e w' ⟨h1, h2⟩ => ⟨h1, alloc_below h2⟩
  have A2 : ∀ W : World, Calls Try.prog 11 #[.slice (some ⟨W.heap.size, 0, none⟩) 1 1] (W.alloc (.cells #[.string ⟨#[122, 122, 122, 122]⟩] 9)) fun e w' => e = .returned (SV (sk (bl zS))) ∧ Below W.heap.size W w' := fun W => by
    have h := of_any (oneS zS) _ 1 _ (by omega) (by decide) (strs_new W #[.string zS] 9 (oneS zS) 1 W.heap.size rfl (by decide) (one_cells zS))
    rw [one_pre] at h
    exact h.mono fun e w' ⟨h1, h2⟩ => ⟨h1, alloc_below h2⟩
  have A0 : ∀ W : World, Calls Try.prog 11 #[.slice none 0 0] W fun e w' => e = .returned (SV (sk [])) ∧ Below W.heap.size W w' := fun W => of_any (oneS aS) _ 0 W (by omega) (by decide) (Or.inl ⟨none, 0, rfl, rfl⟩)
  have AF : ∀ W : World, Calls Try.prog 15 #[SV (sk (bl aS)), SV (sk [])] W fun e w' => e = .returned (.int .i64 4) ∧ Below W.heap.size W w' := fun W => by
    have h := far_any (sk (bl aS)) (sk []) oa (Ok.sk (by decide)) W
    rw [alive_far] at h
    exact h
  have e4 : FloatKind.f64.format.order (FB (sk (bl aS) 0)) 4616189618054758400 = some .eq := by
    rw [← alive_4]
    exact ord_FB _ (by have := oa 0; omega)
  have hp := alive_pl
  have AO : ∀ W : World, Calls Try.prog 20 #[.slice (some ⟨W.heap.size, 0, none⟩) 3 3] (W.alloc (.cells #[.complex .f64 (FB (sk (bl aS) 0)) (FB (sk (bl aS) 1)), .complex .f64 (FB (sk (bl aS) 2)) (FB (sk (bl aS) 3)), .complex .f64 (FB (sk (bl aS) 4)) (FB (sk (bl aS) 5)), .complex .f64 (FB (sk (bl aS) 6)) (FB (sk (bl aS) 7)),
      .complex .f64 (FB (sk (bl zS) 0)) (FB (sk (bl zS) 1)), .complex .f64 (FB (sk (bl zS) 2)) (FB (sk (bl zS) 3)), .complex .f64 (FB (sk (bl zS) 4)) (FB (sk (bl zS) 5)), .complex .f64 (FB (sk (bl zS) 6)) (FB (sk (bl zS) 7)),
      .complex .f64 (FB (sk (bl aS) 0)) (FB (sk (bl aS) 1)), .complex .f64 (FB (sk (bl aS) 2)) (FB (sk (bl aS) 3)), .complex .f64 (FB (sk (bl aS) 4)) (FB (sk (bl aS) 5)), .complex .f64 (FB (sk (bl aS) 6)) (FB (sk (bl aS) 7))] 28)) fun e w' => ∃ g, e = .returned (.slice (some ⟨g, 0, none⟩) 3 3) ∧ Row w' (.slice (some ⟨g, 0, none⟩) 3 3) 1 (inc (pl (dist (three (sk (bl aS)) (sk (bl zS)))) 3)) 3 ∧ Below W.heap.size W w' := fun W => by
    have h := order_some (three (sk (bl aS)) (sk (bl zS))) W.heap.size 0 3 2 (W.alloc (.cells (arr 12 (skc (three (sk (bl aS)) (sk (bl zS))))) 28)) (fun i hi => by unfold three; split; exact oz; exact oa) (by omega) (by simp) (by omega) (fun i hi => by
      rw [Nat.zero_add, cell_of_row _ _ _ _ _ _ (heap_alloc_new W _)]
      exact arr_get _ _ _ (by omega))
    exact h.mono fun e w' ⟨g, h1, h2, h3⟩ => ⟨g, h1, h2, alloc_below h3⟩
  obtain ⟨p, hpe⟩ : ∃ p, p = pl (dist (three (sk (bl aS)) (sk (bl zS)))) 3 := ⟨_, rfl⟩
  rw [← hpe] at AO hp
  have AI : ∀ (W : World) (g : Nat), Row W (.slice (some ⟨g, 0, none⟩) 3 3) 1 (inc p) 3 → Calls Try.prog 19 #[.slice (some ⟨g, 0, none⟩) 3 3, .slice (some ⟨W.heap.size, 0, none⟩) 3 3] (W.alloc (.cells #[.int .i64 0, .int .i64 2, .int .i64 1] 3)) fun e w' => e = .returned (.bool true) ∧ Below W.heap.size W w' := fun W g hR => by
    have h := ints_any p (.slice (some ⟨g, 0, none⟩) 3 3) (.slice (some ⟨W.heap.size, 0, none⟩) 3 3) 3 (W.alloc (.cells #[.int .i64 0, .int .i64 2, .int .i64 1] 3)) (by omega) (hR.below ((Below.refl _ _).alloc (Nat.le_refl _) _)) (Or.inr ⟨_, 0, 3, rfl, by omega, by simp, fun i hi => by
      rw [Nat.zero_add, cell_of_row _ _ _ _ _ _ (heap_alloc_new W _)]
      have : i = 0 ∨ i = 1 ∨ i = 2 := by omega
      unfold inc
      rcases this with rfl | rfl | rfl
      · rw [hp.1]; rfl
      · rw [hp.2.1]; rfl
      · rw [hp.2.2]; rfl⟩)
    exact h.mono fun e w' ⟨h1, h2⟩ => ⟨h1, alloc_below h2⟩
  unfold SV at A0 A1 A2 AF
  clear oa oz hp hpe
  generalize sk (bl aS) = a at *
  generalize sk (bl zS) = z at *
  generalize sk [] = q at *
  have H0 := Lib.hid A0
  have H1 := Lib.hid A1
  have H2 := Lib.hid A2
  have HF := Lib.hid AF
  have HO := Lib.hid AO
  have HI := Lib.hid AI
  have H4 := Lib.hid e4
  clear A0 A1 A2 AF AO AI e4
  go_enter Try.func8, Try.ntmps8
  go_wp2_with fail
  refine (H1.out _).mono ?_
  rintro e w1 ⟨rfl, B1⟩
  go_upto_region 2 with fail
  have S2 : SA w w1.heap.size a (w1.alloc (.cells #[.complex .f64 (FB (a 0)) (FB (a 1)), .complex .f64 (FB (a 2)) (FB (a 3)), .complex .f64 (FB (a 4)) (FB (a 5)), .complex .f64 (FB (a 6)) (FB (a 7))] 28)) := by
    obtain ⟨h0, h1, h2, h3⟩ := C4.new w1 a
    exact ⟨h0, h1, h2, h3, B1.alloc B1.size _⟩
  clear B1 H1
  generalize w1.alloc (.cells #[.complex .f64 (FB (a 0)) (FB (a 1)), .complex .f64 (FB (a 2)) (FB (a 3)), .complex .f64 (FB (a 4)) (FB (a 5)), .complex .f64 (FB (a 6)) (FB (a 7))] 28) = w2 at S2 ⊢
  generalize w1.heap.size = b at S2 ⊢
  have S3 : SA w b a w2.drew := S2.keep (Below.refl _ _).drew
  go_region_held3 (fun W => W.cell? ⟨b, 0, none⟩ = some (.complex .f64 (FB (a 0)) (FB (a 1))) ∧ W.cell? ⟨b, 1, none⟩ = some (.complex .f64 (FB (a 2)) (FB (a 3))) ∧ W.cell? ⟨b, 2, none⟩ = some (.complex .f64 (FB (a 4)) (FB (a 5))) ∧ W.cell? ⟨b, 3, none⟩ = some (.complex .f64 (FB (a 6)) (FB (a 7))) ∧ Below w.heap.size w W) (first | exact S3 | assumption | exact SA.alloc (by assumption) _) (first | (go_at_call 11; refine (H2.out w2.drew).mono ?_; rintro e wa ⟨rfl, ba⟩; have Sa := SA.keep S3 ba) | (go_at_call 20; refine (HO.out _).mono ?_; rintro e wb ⟨gl, rfl, rowl, bb⟩; have Sb := SA.keep (by assumption) bb))
  have S4 : SB w b a (.slice (some ⟨gl, 0, none⟩) 3 3) p wb.drew := by
    obtain ⟨h0, h1, h2, h3, h4⟩ := Sb
    exact SB.keep ⟨h0, h1, h2, h3, h4, rowl⟩ (Below.refl _ _).drew
  have e4 := H4.out
  clear S2 S3 Sa Sb ba bb rowl H2 HO
  go_upto_region 3 with fail
  go_region_held3 (fun W => W.cell? ⟨b, 0, none⟩ = some (.complex .f64 (FB (a 0)) (FB (a 1))) ∧ W.cell? ⟨b, 1, none⟩ = some (.complex .f64 (FB (a 2)) (FB (a 3))) ∧ W.cell? ⟨b, 2, none⟩ = some (.complex .f64 (FB (a 4)) (FB (a 5))) ∧ W.cell? ⟨b, 3, none⟩ = some (.complex .f64 (FB (a 6)) (FB (a 7))) ∧ Below w.heap.size w W ∧ Row W (.slice (some ⟨gl, 0, none⟩) 3 3) 1 (inc p) 3) (first | exact S4 | assumption | exact SB.alloc (by assumption) _) (first | (go_at_call 11; refine (H0.out _).mono ?_; rintro e wa ⟨rfl, ba⟩; have Sa := SB.keep (by assumption) ba) | (go_at_call 15; refine (HF.out _).mono ?_; rintro e wa ⟨rfl, ba⟩; have Sa := SB.keep (by assumption) ba) | (go_at_call 19; refine (HI.out _ _ (SB.row (by assumption))).mono ?_; rintro e wa ⟨rfl, ba⟩; have Sa := SB.keep (by assumption) ba))
  go_wp2
  go_ret
  exact ⟨rfl, Sa.2.2.2.2.1⟩
end Go.Proofs.Ytmcaapgcplhhmaa
