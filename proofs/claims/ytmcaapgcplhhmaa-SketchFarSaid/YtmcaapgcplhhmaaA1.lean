import Derived.Test.YtmcaapgcplhhmaaW16
/- SketchFar's function. -/
namespace Go.Proofs.Ytmcaapgcplhhmaa
open Go.RowKit
attribute [local go_sem] run_store_complex
abbrev S3 (w : World) (p q r : Nat) (a b c : Nat → Int) (W : World) : Prop :=
  (W.cell? ⟨p, 0, none⟩ = some (.complex .f64 (FB (a 0)) (FB (a 1))) ∧ W.cell? ⟨p, 1, none⟩ = some (.complex .f64 (FB (a 2)) (FB (a 3))) ∧ W.cell? ⟨p, 2, none⟩ = some (.complex .f64 (FB (a 4)) (FB (a 5))) ∧ W.cell? ⟨p, 3, none⟩ = some (.complex .f64 (FB (a 6)) (FB (a 7)))) ∧
  (W.cell? ⟨q, 0, none⟩ = some (.complex .f64 (FB (b 0)) (FB (b 1))) ∧ W.cell? ⟨q, 1, none⟩ = some (.complex .f64 (FB (b 2)) (FB (b 3))) ∧ W.cell? ⟨q, 2, none⟩ = some (.complex .f64 (FB (b 4)) (FB (b 5))) ∧ W.cell? ⟨q, 3, none⟩ = some (.complex .f64 (FB (b 6)) (FB (b 7)))) ∧
  (W.cell? ⟨r, 0, none⟩ = some (.complex .f64 (FB (c 0)) (FB (c 1))) ∧ W.cell? ⟨r, 1, none⟩ = some (.complex .f64 (FB (c 2)) (FB (c 3))) ∧ W.cell? ⟨r, 2, none⟩ = some (.complex .f64 (FB (c 4)) (FB (c 5))) ∧ W.cell? ⟨r, 3, none⟩ = some (.complex .f64 (FB (c 6)) (FB (c 7)))) ∧ Below w.heap.size w W
theorem S3.keep {w W w' : World} {p q r : Nat} {a b c : Nat → Int} (h : S3 w p q r a b c W) (hb : Below W.heap.size W w') : S3 w p q r a b c w' := by
  obtain ⟨⟨h0, h1, h2, h3⟩, ⟨i0, i1, i2, i3⟩, ⟨j0, j1, j2, j3⟩, h4⟩ := h
  have e := fun j => hb.cell (p := ⟨p, j, none⟩) (show p < W.heap.size from block_lt_of_cell h0)
  have f := fun j => hb.cell (p := ⟨q, j, none⟩) (show q < W.heap.size from block_lt_of_cell i0)
  have g := fun j => hb.cell (p := ⟨r, j, none⟩) (show r < W.heap.size from block_lt_of_cell j0)
  exact ⟨⟨by rw [e]; exact h0, by rw [e]; exact h1, by rw [e]; exact h2, by rw [e]; exact h3⟩, ⟨by rw [f]; exact i0, by rw [f]; exact i1, by rw [f]; exact i2, by rw [f]; exact i3⟩, ⟨by rw [g]; exact j0, by rw [g]; exact j1, by rw [g]; exact j2, by rw [g]; exact j3⟩, h4.trans (hb.mono h4.size)⟩
theorem three_new (w w4 W : World) (a b c : Nat → Int) (hL : Below w.heap.size w w4) (hW : W = (((w4.alloc (.cells #[.complex .f64 (FB (a 0)) (FB (a 1)), .complex .f64 (FB (a 2)) (FB (a 3)), .complex .f64 (FB (a 4)) (FB (a 5)), .complex .f64 (FB (a 6)) (FB (a 7))] 28)).alloc (.cells #[.complex .f64 (FB (b 0)) (FB (b 1)), .complex .f64 (FB (b 2)) (FB (b 3)), .complex .f64 (FB (b 4)) (FB (b 5)), .complex .f64 (FB (b 6)) (FB (b 7))] 28)).alloc (.cells #[.complex .f64 (FB (c 0)) (FB (c 1)), .complex .f64 (FB (c 2)) (FB (c 3)), .complex .f64 (FB (c 4)) (FB (c 5)), .complex .f64 (FB (c 6)) (FB (c 7))] 28))) : S3 w w4.heap.size (w4.heap.size + 1) (w4.heap.size + 1 + 1) a b c W := by
  obtain ⟨g1, g2, g3⟩ := two_new w4 (E := 28) (F := 28) (sv_arr a) (sv_arr b)
  have g4 := Blk.new ((w4.alloc (.cells #[.complex .f64 (FB (a 0)) (FB (a 1)), .complex .f64 (FB (a 2)) (FB (a 3)), .complex .f64 (FB (a 4)) (FB (a 5)), .complex .f64 (FB (a 6)) (FB (a 7))] 28)).alloc (.cells #[.complex .f64 (FB (b 0)) (FB (b 1)), .complex .f64 (FB (b 2)) (FB (b 3)), .complex .f64 (FB (b 4)) (FB (b 5)), .complex .f64 (FB (b 6)) (FB (b 7))] 28)) #[.complex .f64 (FB (c 0)) (FB (c 1)), .complex .f64 (FB (c 2)) (FB (c 3)), .complex .f64 (FB (c 4)) (FB (c 5)), .complex .f64 (FB (c 6)) (FB (c 7))] 28 4 _ (sv_arr c)
  have e : ((w4.alloc (.cells #[.complex .f64 (FB (a 0)) (FB (a 1)), .complex .f64 (FB (a 2)) (FB (a 3)), .complex .f64 (FB (a 4)) (FB (a 5)), .complex .f64 (FB (a 6)) (FB (a 7))] 28)).alloc (.cells #[.complex .f64 (FB (b 0)) (FB (b 1)), .complex .f64 (FB (b 2)) (FB (b 3)), .complex .f64 (FB (b 4)) (FB (b 5)), .complex .f64 (FB (b 6)) (FB (b 7))] 28)).heap.size = w4.heap.size + 1 + 1 := by simp
  have k1 := g1.alloc (.cells #[.complex .f64 (FB (c 0)) (FB (c 1)), .complex .f64 (FB (c 2)) (FB (c 3)), .complex .f64 (FB (c 4)) (FB (c 5)), .complex .f64 (FB (c 6)) (FB (c 7))] 28)
  have k2 := g2.alloc (.cells #[.complex .f64 (FB (c 0)) (FB (c 1)), .complex .f64 (FB (c 2)) (FB (c 3)), .complex .f64 (FB (c 4)) (FB (c 5)), .complex .f64 (FB (c 6)) (FB (c 7))] 28)
  have k3 := (hL.trans (g3.mono hL.size)).alloc (Nat.le_trans hL.size g3.size) (.cells #[.complex .f64 (FB (c 0)) (FB (c 1)), .complex .f64 (FB (c 2)) (FB (c 3)), .complex .f64 (FB (c 4)) (FB (c 5)), .complex .f64 (FB (c 6)) (FB (c 7))] 28)
  rw [e] at g4
  rw [← hW] at k1 k2 k3 g4
  exact ⟨⟨k1.cell 0 (by omega), k1.cell 1 (by omega), k1.cell 2 (by omega), k1.cell 3 (by omega)⟩, ⟨k2.cell 0 (by omega), k2.cell 1 (by omega), k2.cell 2 (by omega), k2.cell 3 (by omega)⟩, ⟨g4.cell 0 (by omega), g4.cell 1 (by omega), g4.cell 2 (by omega), g4.cell 3 (by omega)⟩, k3⟩
theorem of_lit (s : ByteArray) (hs : s.size ≤ 1048576) (W : World) : Calls Try.prog 11 #[.slice (some ⟨W.heap.size, 0, none⟩) 1 1] (W.alloc (.cells #[.string s] 9)) fun e w' => e = .returned (SV (sk (bl s))) ∧ Below W.heap.size W w' := by
  have h := of_any (oneS s) _ 1 _ (by omega) (by rw [one_pre, bl_len]; exact hs) (strs_new W #[.string s] 9 (oneS s) 1 W.heap.size rfl (by decide) (one_cells s))
  rw [one_pre] at h
  exact h.mono fun e w' ⟨h1, h2⟩ => ⟨h1, alloc_below h2⟩
set_option maxHeartbeats 2000000 in
theorem far_long (s t u : ByteArray) (w : World) (h : 2000 < s.size ∨ 2000 < t.size ∨ 2000 < u.size) :
    Calls Try.prog 6 #[.string s, .string t, .string u] w fun e w' => e = .returned (.bool true) ∧ Below w.heap.size w w' := by
  by_cases c1 : 2000 < s.size
  · have b1 : (2000 : Int) < (s.size : Int) := by omega
    go_enter Try.func6, Try.ntmps6
    go_wp2_with fail
    refine (alive_any _).mono ?_
    rintro e w1 ⟨rfl, L1⟩
    go_wp2_with fail
    refine (alive_any _).mono ?_
    rintro e w2 ⟨rfl, B2⟩
    go_wp2
    go_ret
    exact ⟨rfl, L1.trans (B2.mono L1.size)⟩
  · have b1 : (s.size : Int) ≤ 2000 := by omega
    by_cases c2 : 2000 < t.size
    · have b2 : (2000 : Int) < (t.size : Int) := by omega
      go_enter Try.func6, Try.ntmps6
      go_wp2_with fail
      refine (alive_any _).mono ?_
      rintro e w1 ⟨rfl, L1⟩
      go_wp2_with fail
      refine (alive_any _).mono ?_
      rintro e w2 ⟨rfl, B2⟩
      go_wp2
      go_ret
      exact ⟨rfl, L1.trans (B2.mono L1.size)⟩
    · have b2 : (t.size : Int) ≤ 2000 := by omega
      have b3 : (2000 : Int) < (u.size : Int) := by omega
      go_enter Try.func6, Try.ntmps6
      go_wp2_with fail
      refine (alive_any _).mono ?_
      rintro e w1 ⟨rfl, L1⟩
      go_wp2_with fail
      refine (alive_any _).mono ?_
      rintro e w2 ⟨rfl, B2⟩
      go_wp2
      go_ret
      exact ⟨rfl, L1.trans (B2.mono L1.size)⟩
set_option maxHeartbeats 8000000 in
theorem far_short (s t u : ByteArray) (w : World) (h1 : s.size ≤ 2000) (h2 : t.size ≤ 2000) (h3 : u.size ≤ 2000) :
    Calls Try.prog 6 #[.string s, .string t, .string u] w fun e w' => e = .returned (.bool true) ∧ Below w.heap.size w w' := by
  have b1 : (s.size : Int) ≤ 2000 := by omega
  have b2 : (t.size : Int) ≤ 2000 := by omega
  have b3 : (u.size : Int) ≤ 2000 := by omega
  have A1 := fun W => of_lit s (by omega) W
  have A2 := fun W => of_lit t (by omega) W
  have A3 := fun W => of_lit u (by omega) W
  have oa : Ok (sk (bl s)) := Ok.sk (by rw [bl_len]; omega)
  have ob : Ok (sk (bl t)) := Ok.sk (by rw [bl_len]; omega)
  have oc : Ok (sk (bl u)) := Ok.sk (by rw [bl_len]; omega)
  clear h1 h2 h3
  generalize sk (bl s) = a at *
  generalize sk (bl t) = b at *
  generalize sk (bl u) = c at *
  have hE := fun w => eql_sk a b oa ob w
  have hF : ∀ x y, Ok x → Ok y → ∀ W, Calls Try.prog 15 #[SV x, SV y] W fun e w' => e = .returned (.int .i64 (far x y : Int)) ∧ Below W.heap.size W w' := fun x y hx hy W => far_any x y hx hy W
  have z1 := far_self a
  have z2 := far_comm b a
  have z3 := far_tri a b c
  have m1 := far_le oa ob
  have m2 := far_le ob oc
  unfold SV at A1 A2 A3 hE hF
  have H1 := Lib.hid A1
  have H2 := Lib.hid A2
  have H3 := Lib.hid A3
  have HF := Lib.hid hF
  have HE := Lib.hid hE
  have HZ := Lib.hid (And.intro z1 (And.intro z2 z3))
  have HM := Lib.hid (And.intro m1 m2)
  clear A1 A2 A3 hF hE z1 z2 z3 m1 m2
  go_enter Try.func6, Try.ntmps6
  go_wp2_with fail
  refine (alive_any _).mono ?_
  rintro e w1 ⟨rfl, L1⟩
  go_wp2_with fail
  refine (H1.out _).mono ?_
  rintro e w2 ⟨rfl, B2⟩
  have L2 := L1.trans (B2.mono L1.size)
  go_wp2_with fail
  refine (H2.out _).mono ?_
  rintro e w3 ⟨rfl, B3⟩
  have L3 := L2.trans (B3.mono L2.size)
  go_wp2_with fail
  refine (H3.out _).mono ?_
  rintro e w4 ⟨rfl, B4⟩
  have L4 := L3.trans (B4.mono L3.size)
  clear L1 L2 L3 B2 B3 B4 H1 H2 H3
  go_upto_region 6 with fail
  have S0 := three_new w w4 _ a b c L4 rfl
  clear L4
  generalize (((w4.alloc (.cells #[.complex .f64 (FB (a 0)) (FB (a 1)), .complex .f64 (FB (a 2)) (FB (a 3)), .complex .f64 (FB (a 4)) (FB (a 5)), .complex .f64 (FB (a 6)) (FB (a 7))] 28)).alloc (.cells #[.complex .f64 (FB (b 0)) (FB (b 1)), .complex .f64 (FB (b 2)) (FB (b 3)), .complex .f64 (FB (b 4)) (FB (b 5)), .complex .f64 (FB (b 6)) (FB (b 7))] 28)).alloc (.cells #[.complex .f64 (FB (c 0)) (FB (c 1)), .complex .f64 (FB (c 2)) (FB (c 3)), .complex .f64 (FB (c 4)) (FB (c 5)), .complex .f64 (FB (c 6)) (FB (c 7))] 28)) = w5 at S0 ⊢
  generalize w4.heap.size + 1 + 1 = r at S0 ⊢
  generalize w4.heap.size + 1 = q at S0 ⊢
  generalize w4.heap.size = p at S0 ⊢
  have S1 : S3 w p q r a b c w5.drew := S0.keep (Below.refl _ _).drew
  have hE := HE.out
  obtain ⟨z1, z2, z3⟩ := HZ.out
  obtain ⟨m1, m2⟩ := HM.out
  have z4 : decide ((far a c : Int) ≤ (far a b : Int) + (far b c : Int)) = true := decide_eq_true (by omega)
  have z5 : decide (far a c ≤ far a b + far b c) = true := decide_eq_true z3
  have ws : IntKind.i64.wrap ((far a b : Int) + (far b c : Int)) = (far a b : Int) + (far b c : Int) := IntWalk.i64_in _ (by omega)
  clear z3
  have hq : ((far a b : Int) == 0) = decide (far a b = 0) := by
    by_cases c : far a b = 0
    · rw [c]; rfl
    · rw [decide_eq_false c]
      exact beq_eq_false_iff_ne.2 (by omega)
  go_region_held3 (fun W => (W.cell? ⟨p, 0, none⟩ = some (.complex .f64 (FB (a 0)) (FB (a 1))) ∧ W.cell? ⟨p, 1, none⟩ = some (.complex .f64 (FB (a 2)) (FB (a 3))) ∧ W.cell? ⟨p, 2, none⟩ = some (.complex .f64 (FB (a 4)) (FB (a 5))) ∧ W.cell? ⟨p, 3, none⟩ = some (.complex .f64 (FB (a 6)) (FB (a 7)))) ∧  (W.cell? ⟨q, 0, none⟩ = some (.complex .f64 (FB (b 0)) (FB (b 1))) ∧ W.cell? ⟨q, 1, none⟩ = some (.complex .f64 (FB (b 2)) (FB (b 3))) ∧ W.cell? ⟨q, 2, none⟩ = some (.complex .f64 (FB (b 4)) (FB (b 5))) ∧ W.cell? ⟨q, 3, none⟩ = some (.complex .f64 (FB (b 6)) (FB (b 7)))) ∧  (W.cell? ⟨r, 0, none⟩ = some (.complex .f64 (FB (c 0)) (FB (c 1))) ∧ W.cell? ⟨r, 1, none⟩ = some (.complex .f64 (FB (c 2)) (FB (c 3))) ∧ W.cell? ⟨r, 2, none⟩ = some (.complex .f64 (FB (c 4)) (FB (c 5))) ∧ W.cell? ⟨r, 3, none⟩ = some (.complex .f64 (FB (c 6)) (FB (c 7)))) ∧ Below w.heap.size w W) (first | exact S1 | assumption) (first | (go_at_call 8; refine (alive_any _).mono ?_; rintro e wa ⟨rfl, ba⟩; have Sa := S3.keep (by assumption) ba) | (go_at_call 15; refine (HF.out _ _ (by assumption) (by assumption) _).mono ?_; rintro e wa ⟨rfl, ba⟩; have Sa := S3.keep (by assumption) ba))
  go_wp2
  go_ret
  exact ⟨rfl, Sa.2.2.2⟩
theorem sketchfar_any (s t u : ByteArray) (w : World) :
    Calls Try.prog 6 #[.string s, .string t, .string u] w fun e w' => e = .returned (.bool true) ∧ Below w.heap.size w w' := by
  by_cases c : 2000 < s.size ∨ 2000 < t.size ∨ 2000 < u.size
  · exact far_long s t u w c
  · exact far_short s t u w (by omega) (by omega) (by omega)
end Go.Proofs.Ytmcaapgcplhhmaa
