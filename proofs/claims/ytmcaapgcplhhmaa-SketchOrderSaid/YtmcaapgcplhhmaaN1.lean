import Derived.Test.YtmcaapgcplhhmaaW16
/- SketchNear's function: the loop over all texts. -/
namespace Go.Proofs.Ytmcaapgcplhhmaa
open Go.RowKit
attribute [local go_sem] run_store_complex
abbrev SL (w0 : World) (bx by_ ba oa bb ob k : Nat) (g h : Nat → Int) (W : World) : Prop := (W.cell? ⟨bx, 0, none⟩ = some (.complex .f64 (FB (g 0)) (FB (g 1))) ∧ W.cell? ⟨bx, 1, none⟩ = some (.complex .f64 (FB (g 2)) (FB (g 3))) ∧ W.cell? ⟨bx, 2, none⟩ = some (.complex .f64 (FB (g 4)) (FB (g 5))) ∧ W.cell? ⟨bx, 3, none⟩ = some (.complex .f64 (FB (g 6)) (FB (g 7)))) ∧ (W.cell? ⟨ba, oa + k * 4, none⟩ = some (.complex .f64 (FB (h 0)) (FB (h 1))) ∧ W.cell? ⟨ba, oa + k * 4 + 1, none⟩ = some (.complex .f64 (FB (h 2)) (FB (h 3))) ∧ W.cell? ⟨ba, oa + k * 4 + 2, none⟩ = some (.complex .f64 (FB (h 4)) (FB (h 5))) ∧ W.cell? ⟨ba, oa + k * 4 + 3, none⟩ = some (.complex .f64 (FB (h 6)) (FB (h 7)))) ∧ (W.cell? ⟨by_, 0, none⟩ = some (.int .i64 (g 0)) ∧ W.cell? ⟨by_, 1, none⟩ = some (.int .i64 (g 1)) ∧ W.cell? ⟨by_, 2, none⟩ = some (.int .i64 (g 2)) ∧ W.cell? ⟨by_, 3, none⟩ = some (.int .i64 (g 3)) ∧ W.cell? ⟨by_, 4, none⟩ = some (.int .i64 (g 4)) ∧ W.cell? ⟨by_, 5, none⟩ = some (.int .i64 (g 5)) ∧ W.cell? ⟨by_, 6, none⟩ = some (.int .i64 (g 6)) ∧ W.cell? ⟨by_, 7, none⟩ = some (.int .i64 (g 7))) ∧ (W.cell? ⟨bb, ob + k * 8, none⟩ = some (.int .i64 (h 0)) ∧ W.cell? ⟨bb, ob + k * 8 + 1, none⟩ = some (.int .i64 (h 1)) ∧ W.cell? ⟨bb, ob + k * 8 + 2, none⟩ = some (.int .i64 (h 2)) ∧ W.cell? ⟨bb, ob + k * 8 + 3, none⟩ = some (.int .i64 (h 3)) ∧ W.cell? ⟨bb, ob + k * 8 + 4, none⟩ = some (.int .i64 (h 4)) ∧ W.cell? ⟨bb, ob + k * 8 + 5, none⟩ = some (.int .i64 (h 5)) ∧ W.cell? ⟨bb, ob + k * 8 + 6, none⟩ = some (.int .i64 (h 6)) ∧ W.cell? ⟨bb, ob + k * 8 + 7, none⟩ = some (.int .i64 (h 7))) ∧ Below w0.heap.size w0 W
theorem cells4_keep {W w' : World} {b : Nat} {x0 x1 x2 x3 : Value} {o0 o1 o2 o3 : Nat} (h : W.cell? ⟨b, o0, none⟩ = some x0 ∧ W.cell? ⟨b, o1, none⟩ = some x1 ∧ W.cell? ⟨b, o2, none⟩ = some x2 ∧ W.cell? ⟨b, o3, none⟩ = some x3) (hb : Below W.heap.size W w') :
    w'.cell? ⟨b, o0, none⟩ = some x0 ∧ w'.cell? ⟨b, o1, none⟩ = some x1 ∧ w'.cell? ⟨b, o2, none⟩ = some x2 ∧ w'.cell? ⟨b, o3, none⟩ = some x3 := by
  obtain ⟨h0, h1, h2, h3⟩ := h
  have e := fun j => hb.cell (p := ⟨b, j, none⟩) (show b < W.heap.size from block_lt_of_cell h0)
  exact ⟨by rw [e]; exact h0, by rw [e]; exact h1, by rw [e]; exact h2, by rw [e]; exact h3⟩
theorem SL.keep {w0 W w' : World} {bx by_ ba oa bb ob k : Nat} {g h : Nat → Int} (s : SL w0 bx by_ ba oa bb ob k g h W) (hb : Below W.heap.size W w') : SL w0 bx by_ ba oa bb ob k g h w' := by
  obtain ⟨h1, h2, h3, h4, h5⟩ := s
  exact ⟨cells4_keep h1 hb, cells4_keep h2 hb, C8.keep (b := by_) (o := 0) h3 hb, C8.keep (b := bb) (o := ob + k * 8) h4 hb, h5.trans (hb.mono h5.size)⟩
theorem row_at {w : World} {ad : Option Addr} {m n cap : Nat} {c : Nat → Value} (h : Row w (.slice ad n cap) m c n) (hn : 0 < n) : ∃ b o, ad = some ⟨b, o, none⟩ ∧ b < w.heap.size ∧ ∀ i, i < n * m → w.cell? ⟨b, o + i, none⟩ = some (c i) := by
  rcases h with ⟨_, _, h1, h2⟩ | ⟨_, _, _, h1, h2, h3, h4⟩
  · omega
  · cases h1
    exact ⟨_, _, rfl, h3, h4⟩
/- what stands through the loop -/
structure PN (w : World) (bx by_ : Nat) (g : Nat → Int) (gs : Nat → Nat → Int) (a b : Value) (len : Nat) (W : World) : Prop where
  ra : Row W a 4 (skc gs) len
  rb : Row W b 8 (whc gs) len
  x : Blk W bx 28 4 (sv g)
  y : Blk W by_ 31 8 (wv g)
  lo : Below w.heap.size w W
theorem PN.keep {w : World} {bx by_ : Nat} {g : Nat → Int} {gs : Nat → Nat → Int} {a b : Value} {len : Nat} {W w' : World} (h : PN w bx by_ g gs a b len W) (hb : Below W.heap.size W w') : PN w bx by_ g gs a b len w' :=
  ⟨h.ra.below hb, h.rb.below hb, h.x.below hb h.x.lt, h.y.below hb h.y.lt, h.lo.trans (hb.mono h.lo.size)⟩
abbrev SQ (w : World) (bx by_ : Nat) (g : Nat → Int) (gs : Nat → Nat → Int) (a b : Value) (len : Nat) (W : World) : Prop := (W.cell? ⟨bx, 0, none⟩ = some (.complex .f64 (FB (g 0)) (FB (g 1))) ∧ W.cell? ⟨bx, 1, none⟩ = some (.complex .f64 (FB (g 2)) (FB (g 3))) ∧ W.cell? ⟨bx, 2, none⟩ = some (.complex .f64 (FB (g 4)) (FB (g 5))) ∧ W.cell? ⟨bx, 3, none⟩ = some (.complex .f64 (FB (g 6)) (FB (g 7)))) ∧ (W.cell? ⟨by_, 0, none⟩ = some (.int .i64 (g 0)) ∧ W.cell? ⟨by_, 1, none⟩ = some (.int .i64 (g 1)) ∧ W.cell? ⟨by_, 2, none⟩ = some (.int .i64 (g 2)) ∧ W.cell? ⟨by_, 3, none⟩ = some (.int .i64 (g 3)) ∧ W.cell? ⟨by_, 4, none⟩ = some (.int .i64 (g 4)) ∧ W.cell? ⟨by_, 5, none⟩ = some (.int .i64 (g 5)) ∧ W.cell? ⟨by_, 6, none⟩ = some (.int .i64 (g 6)) ∧ W.cell? ⟨by_, 7, none⟩ = some (.int .i64 (g 7))) ∧ Row W a 4 (skc gs) len ∧ Row W b 8 (whc gs) len ∧ Below w.heap.size w W
theorem SQ.keep {w W w' : World} {bx by_ : Nat} {g : Nat → Int} {gs : Nat → Nat → Int} {a b : Value} {len : Nat} (s : SQ w bx by_ g gs a b len W) (hb : Below W.heap.size W w') : SQ w bx by_ g gs a b len w' := by
  obtain ⟨h1, h2, h3, h4, h5⟩ := s
  exact ⟨cells4_keep h1 hb, C8.keep (b := by_) (o := 0) h2 hb, h3.below hb, h4.below hb, h5.trans (hb.mono h5.size)⟩
theorem SQ.alloc {w W : World} {bx by_ : Nat} {g : Nat → Int} {gs : Nat → Nat → Int} {a b : Value} {len : Nat} (s : SQ w bx by_ g gs a b len W) (o : Obj) : SQ w bx by_ g gs a b len (W.alloc o) := s.keep ((Below.refl _ _).alloc (Nat.le_refl _) o)
theorem SQ.ra {w W : World} {bx by_ : Nat} {g : Nat → Int} {gs : Nat → Nat → Int} {a b : Value} {len : Nat} (s : SQ w bx by_ g gs a b len W) : Row W a 4 (skc gs) len := s.2.2.1
theorem SQ.rb {w W : World} {bx by_ : Nat} {g : Nat → Int} {gs : Nat → Nat → Int} {a b : Value} {len : Nat} (s : SQ w bx by_ g gs a b len W) : Row W b 8 (whc gs) len := s.2.2.2.1
def nob (_ : Nat) : Bool := false
theorem row_made (W : World) (len : Nat) : Row (W.alloc (.cells (arr len (fun _ => .bool false)) 4)) (.slice (some ⟨W.heap.size, 0, none⟩) len len) 1 (boc nob) len := by
  by_cases h : len = 0
  · subst h; exact Or.inl ⟨_, _, rfl, rfl⟩
  · refine Or.inr ⟨_, 0, _, rfl, by omega, by simp, fun i hi => ?_⟩
    rw [Nat.zero_add, cell_of_row _ _ _ _ _ _ (heap_alloc_new W _)]
    exact arr_get _ _ _ (by omega)
theorem near_over (g : Nat → Int) (gs : Nat → Nat → Int) (v : Value) (len : Nat) (W : World) (hg : Ok g) (hgs : ∀ i, i < len → Ok (gs i)) (hl : len ≤ 1048576) (hR : Row W v 4 (skc gs) len) :
    Calls Try.prog 17 #[SV g, v] (W.alloc (.cells (arr len (fun _ => .bool false)) 4)) fun e w' => e = .returned (.int .i64 (pos (bst every (fars g gs) len))) ∧ Below W.heap.size W w' ∧ Row w' (.slice (some ⟨W.heap.size, 0, none⟩) len len) 1 (boc nob) len :=
  (near_any g gs v len _ hg hgs hl (hR.below ((Below.refl _ _).alloc (Nat.le_refl _) _))).mono fun e w' ⟨h1, h2⟩ => ⟨h1, alloc_below h2, (row_made W len).below h2⟩
theorem rnear_at (g : Nat → Int) (gs : Nat → Nat → Int) (v u : Value) (len : Nat) (W : World) (hg : Ok g) (hgs : ∀ i, i < len → Ok (gs i)) (hl : len ≤ 1000000) (hR : Row W v 8 (whc gs) len) (hT : Row W u 1 (boc nob) len) :
    Calls Try.prog 18 #[WV g, v, u] W fun e w' => e = .returned (.int .i64 (pos (bst every (fars g gs) len))) ∧ Below W.heap.size W w' :=
  rnear_any g gs nob v u len W hg hgs hl hR hT
theorem rnear_over (g : Nat → Int) (gs : Nat → Nat → Int) (v : Value) (len : Nat) (W : World) (hg : Ok g) (hgs : ∀ i, i < len → Ok (gs i)) (hl : len ≤ 1000000) (hR : Row W v 8 (whc gs) len) :
    Calls Try.prog 18 #[WV g, v, .slice (some ⟨W.heap.size, 0, none⟩) len len] (W.alloc (.cells (arr len (fun _ => .bool false)) 4)) fun e w' => e = .returned (.int .i64 (pos (bst every (fars g gs) len))) ∧ Below W.heap.size W w' :=
  (rnear_at g gs v _ len _ hg hgs hl (hR.below ((Below.refl _ _).alloc (Nat.le_refl _) _)) (row_made W len)).mono fun e w' ⟨h1, h2⟩ => ⟨h1, alloc_below h2⟩
set_option maxHeartbeats 4000000 in
theorem near_long (s : ByteArray) (ss : Nat → ByteArray) (v : Value) (len : Nat) (w : World) (hs : s.size ≤ 9223372036854775807) (hl : len ≤ 9223372036854775807) (hS : Strs w v ss len) (h : isGreat ss len = true ∨ 500 < s.size) :
    Calls Try.prog 4 #[.string s, v] w fun e w' => e = .returned (.bool true) ∧ Below w.heap.size w w' := by
  have HGr := fun W (L : Below w.heap.size w W) => great_any ss v len W hl (hS.below L)
  clear hS
  cases hg : isGreat ss len
  · rw [hg] at h HGr
    have h5 : 500 < s.size := by
      rcases h with h | h
      · cases h
      · exact h
    have b1 : (500 : Int) < (s.size : Int) := by omega
    have HG := Lib.hid HGr
    clear HGr h hg
    go_enter Try.func4, Try.ntmps4
    go_wp2_with fail
    refine (alive_any _).mono ?_
    rintro e w1 ⟨rfl, L1⟩
    go_wp2_with fail
    refine (HG.out _ L1).mono ?_
    rintro e w2 ⟨rfl, rfl⟩
    go_wp2_with fail
    refine (alive_any _).mono ?_
    rintro e w2 ⟨rfl, B2⟩
    go_wp2
    go_ret
    exact ⟨rfl, L1.trans (B2.mono L1.size)⟩
  · rw [hg] at HGr
    have HG := Lib.hid HGr
    clear HGr h hg
    go_enter Try.func4, Try.ntmps4
    go_wp2_with fail
    refine (alive_any _).mono ?_
    rintro e w1 ⟨rfl, L1⟩
    go_wp2_with fail
    refine (HG.out _ L1).mono ?_
    rintro e w2 ⟨rfl, rfl⟩
    go_wp2_with fail
    refine (alive_any _).mono ?_
    rintro e w2 ⟨rfl, B2⟩
    go_wp2
    go_ret
    exact ⟨rfl, L1.trans (B2.mono L1.size)⟩
set_option maxHeartbeats 8000000 in
theorem near_short (s : ByteArray) (ss : Nat → ByteArray) (v : Value) (len : Nat) (w : World) (h5 : s.size ≤ 500) (hl : len ≤ 30) (h500 : ∀ i, i < len → (ss i).size ≤ 500) (hg : isGreat ss len = false) (hS : Strs w v ss len) :
    Calls Try.prog 4 #[.string s, v] w fun e w' => e = .returned (.bool true) ∧ Below w.heap.size w w' := by
  have HG := Lib.hid (fun W (L : Below w.heap.size w W) => great_any ss v len W (by omega) (hS.below L))
  rw [hg] at HG
  have HK := Lib.hid (fun W (L : Below w.heap.size w W) => sketches_any ss v len W (by omega) (fun i hi => by have := h500 i hi; omega) (hS.below L))
  obtain ⟨ad0, cap0, rfl, -⟩ := strs_addr hS
  have b1 : (s.size : Int) ≤ 500 := by omega
  have A1 := fun W => of_any (oneS s) (.slice (some ⟨W.heap.size, 0, none⟩) 1 1) 1 (W.alloc (.cells #[.string s] 9)) (by omega) (by rw [one_pre, bl_len]; omega) (strs_new W #[.string s] 9 (oneS s) 1 W.heap.size rfl (by decide) (one_cells s))
  have A2 := fun W => rof_any s W (by omega)
  rw [one_pre] at A1
  have og : Ok (sk (bl s)) := Ok.sk (by rw [bl_len]; omega)
  have ot : ∀ i, i < len → Ok (tsk ss i) := fun i hi => Ok.sk (by rw [bl_len]; have := h500 i hi; omega)
  generalize sk (bl s) = g at *
  have F1 : ∀ i, i < len → ∀ W, Calls Try.prog 15 #[SV g, SV (tsk ss i)] W fun e w' => e = .returned (.int .i64 (far g (tsk ss i) : Int)) ∧ Below W.heap.size W w' := fun i hi W => far_any g (tsk ss i) og (ot i hi) W
  have F2 : ∀ i, i < len → ∀ W, Calls Try.prog 16 #[WV g, WV (tsk ss i)] W fun e w' => e = .returned (.int .i64 (far g (tsk ss i) : Int)) ∧ Below W.heap.size W w' := fun i hi W => rfar_any g (tsk ss i) og (ot i hi) W
  unfold SV at A1 F1
  unfold WV at A2 F2
  have H1 := Lib.hid A1
  have H2 := Lib.hid A2
  have HF1 := Lib.hid F1
  have HF2 := Lib.hid F2
  have HO := Lib.hid (And.intro og ot)
  clear A1 A2 F1 F2 og ot h500 hS hg
  go_enter Try.func4, Try.ntmps4
  go_wp2_with fail
  refine (alive_any _).mono ?_
  rintro e w1 ⟨rfl, L1⟩
  go_wp2_with fail
  refine (HG.out _ L1).mono ?_
  rintro e w2 ⟨rfl, rfl⟩
  go_wp2_with fail
  refine (HK.out _ L1).mono ?_
  rintro e w2 ⟨a, b, rfl, ra, rb, rm, B2⟩
  have P2 := Lib.hid (And.intro ra (And.intro rb (And.intro rm (L1.trans (B2.mono L1.size)))))
  clear ra rb rm B2 L1 HG HK
  go_wp2_with fail
  refine (H1.out _).mono ?_
  rintro e w3 ⟨rfl, B3⟩
  have hb3 := alloc_below B3
  go_wp2_with fail
  refine (H2.out _).mono ?_
  rintro e w4 ⟨rfl, B4⟩
  have N4 : Hid (PN w w4.heap.size (w4.heap.size + 1) g (tsk ss) a b len ((w4.alloc (.cells #[.complex .f64 (FB (g 0)) (FB (g 1)), .complex .f64 (FB (g 2)) (FB (g 3)), .complex .f64 (FB (g 4)) (FB (g 5)), .complex .f64 (FB (g 6)) (FB (g 7))] 28)).alloc (.cells #[.int .i64 (g 0), .int .i64 (g 1), .int .i64 (g 2), .int .i64 (g 3), .int .i64 (g 4), .int .i64 (g 5), .int .i64 (g 6), .int .i64 (g 7)] 31))) := by
    obtain ⟨ra, rb, rm, L2⟩ := P2.out
    obtain ⟨g1, g2, g3⟩ := two_new w4 (E := 28) (F := 31) (sv_arr g) (wv_arr g)
    have B24 := hb3.trans (B4.mono hb3.size)
    have B25 := B24.trans (g3.mono B24.size)
    exact ⟨ra.below B25, rb.below B25, g1, g2, L2.trans (B25.mono L2.size)⟩
  have RM := Lib.hid P2.out.2.2.1
  clear P2 H1 H2 B3 hb3 B4
  go_upto_region 7 with fail
  generalize (w4.alloc (.cells #[.complex .f64 (FB (g 0)) (FB (g 1)), .complex .f64 (FB (g 2)) (FB (g 3)), .complex .f64 (FB (g 4)) (FB (g 5)), .complex .f64 (FB (g 6)) (FB (g 7))] 28)).alloc (.cells #[.int .i64 (g 0), .int .i64 (g 1), .int .i64 (g 2), .int .i64 (g 3), .int .i64 (g 4), .int .i64 (g 5), .int .i64 (g 6), .int .i64 (g 7)] 31) = w5 at N4 ⊢
  generalize w4.heap.size + 1 = by_ at N4 ⊢
  generalize w4.heap.size = bx at N4 ⊢
  obtain ⟨ada, capa, rfl, -⟩ := row_addr N4.out.ra
  obtain ⟨adb, capb, rfl, -⟩ := row_addr N4.out.rb
  go_wp2
  go_loopw [9] (fun i wr => ∃ k : Nat, k ≤ len ∧ i = .int .i64 k ∧ Hid (PN w bx by_ g (tsk ss) (.slice ada len capa) (.slice adb len capb) len wr)) (fun i _ => len - (intOf i).toNat)
  case atStart => exact ⟨0, by omega, rfl, N4⟩
  case round =>
    clear N4
    obtain ⟨k, hk, rfl, hN⟩ := hrel
    by_cases hlt : k < len
    · obtain ⟨ba, oa, rfl, hba, hca⟩ := row_at hN.out.ra (by omega)
      obtain ⟨bb, ob, rfl, hbb, hcb⟩ := row_at hN.out.rb (by omega)
      have zk : (0 : Int) ≤ (k : Int) := by omega
      have yk : (k : Int) < (len : Int) := by omega
      obtain ⟨h, hh⟩ : ∃ h, h = tsk ss k := ⟨_, rfl⟩
      have S0 : SL wr bx by_ ba oa bb ob k g h wr.drew := by
        have c := fun j hj => (hca (k * 4 + j) (by omega)).trans (congrArg some (skc_at (tsk ss) k j hj))
        have d := fun j hj => (hcb (k * 8 + j) (by omega)).trans (congrArg some (whc_at (tsk ss) k j hj))
        rw [← hh] at c d
        simp only [← Nat.add_assoc] at c d
        have x := hN.out.x
        have y := hN.out.y
        exact ⟨⟨x.cell 0 (by omega), x.cell 1 (by omega), x.cell 2 (by omega), x.cell 3 (by omega)⟩, ⟨c 0 (by omega), c 1 (by omega), c 2 (by omega), c 3 (by omega)⟩, c8_of (b := by_) (o := 0) (fun j hj => by rw [Nat.zero_add]; exact y.cell j hj), c8_of (b := bb) (o := ob + k * 8) (fun j hj => d j hj), (Below.refl _ _).drew⟩
      have F1 := HF1.out k hlt
      have F2 := HF2.out k hlt
      rw [← hh] at F1 F2
      generalize (far g h : Int) = D at F1 F2
      have HF := Lib.hid F1
      have HR := Lib.hid F2
      clear F1 F2 hca hcb hba hbb hh HF1 HF2 HO RM
      go_wp2
      go_region_held3 (fun W => (W.cell? ⟨bx, 0, none⟩ = some (.complex .f64 (FB (g 0)) (FB (g 1))) ∧ W.cell? ⟨bx, 1, none⟩ = some (.complex .f64 (FB (g 2)) (FB (g 3))) ∧ W.cell? ⟨bx, 2, none⟩ = some (.complex .f64 (FB (g 4)) (FB (g 5))) ∧ W.cell? ⟨bx, 3, none⟩ = some (.complex .f64 (FB (g 6)) (FB (g 7)))) ∧ (W.cell? ⟨ba, oa + k * 4, none⟩ = some (.complex .f64 (FB (h 0)) (FB (h 1))) ∧ W.cell? ⟨ba, oa + k * 4 + 1, none⟩ = some (.complex .f64 (FB (h 2)) (FB (h 3))) ∧ W.cell? ⟨ba, oa + k * 4 + 2, none⟩ = some (.complex .f64 (FB (h 4)) (FB (h 5))) ∧ W.cell? ⟨ba, oa + k * 4 + 3, none⟩ = some (.complex .f64 (FB (h 6)) (FB (h 7)))) ∧ (W.cell? ⟨by_, 0, none⟩ = some (.int .i64 (g 0)) ∧ W.cell? ⟨by_, 1, none⟩ = some (.int .i64 (g 1)) ∧ W.cell? ⟨by_, 2, none⟩ = some (.int .i64 (g 2)) ∧ W.cell? ⟨by_, 3, none⟩ = some (.int .i64 (g 3)) ∧ W.cell? ⟨by_, 4, none⟩ = some (.int .i64 (g 4)) ∧ W.cell? ⟨by_, 5, none⟩ = some (.int .i64 (g 5)) ∧ W.cell? ⟨by_, 6, none⟩ = some (.int .i64 (g 6)) ∧ W.cell? ⟨by_, 7, none⟩ = some (.int .i64 (g 7))) ∧ (W.cell? ⟨bb, ob + k * 8, none⟩ = some (.int .i64 (h 0)) ∧ W.cell? ⟨bb, ob + k * 8 + 1, none⟩ = some (.int .i64 (h 1)) ∧ W.cell? ⟨bb, ob + k * 8 + 2, none⟩ = some (.int .i64 (h 2)) ∧ W.cell? ⟨bb, ob + k * 8 + 3, none⟩ = some (.int .i64 (h 3)) ∧ W.cell? ⟨bb, ob + k * 8 + 4, none⟩ = some (.int .i64 (h 4)) ∧ W.cell? ⟨bb, ob + k * 8 + 5, none⟩ = some (.int .i64 (h 5)) ∧ W.cell? ⟨bb, ob + k * 8 + 6, none⟩ = some (.int .i64 (h 6)) ∧ W.cell? ⟨bb, ob + k * 8 + 7, none⟩ = some (.int .i64 (h 7))) ∧ Below wr.heap.size wr W) (first | exact S0 | assumption) (first | (go_at_call 15; refine (HF.out _).mono ?_; rintro e wa ⟨rfl, ba'⟩; have Sa := SL.keep (by assumption) ba') | (go_at_call 16; refine (HR.out _).mono ?_; rintro e wa ⟨rfl, ba'⟩; have Sa := SL.keep (by assumption) ba'))
      have H5 := Lib.hid (hN.out.keep Sa.2.2.2.2)
      clear S0 Sa hN HF HR
      go_wp2
      go_roundw
      case rel => exact ⟨k + 1, by omega, by go_num, H5⟩
      case measure => simp [intOf]; omega
    · have e : k = len := by omega
      subst e
      have yk : (k : Int) ≤ (k : Int) := by omega
      obtain ⟨og, ot⟩ := HO.out
      have S0 : SQ w bx by_ g (tsk ss) (.slice ada k capa) (.slice adb k capb) k wr.drew := by
        have x := hN.out.x
        have y := hN.out.y
        exact SQ.keep ⟨⟨x.cell 0 (by omega), x.cell 1 (by omega), x.cell 2 (by omega), x.cell 3 (by omega)⟩, c8_of (b := by_) (o := 0) (fun j hj => by rw [Nat.zero_add]; exact y.cell j hj), hN.out.ra, hN.out.rb, hN.out.lo⟩ (Below.refl _ _).drew
      have N1 := fun W (hR : Row W (.slice ada k capa) 4 (skc (tsk ss)) k) => near_any g (tsk ss) (.slice ada k capa) k W og ot (by omega) hR
      have N2 := fun W (hR : Row W (.slice ada k capa) 4 (skc (tsk ss)) k) => near_over g (tsk ss) (.slice ada k capa) k W og ot (by omega) hR
      have R1 := fun W x (hR : Row W (.slice adb k capb) 8 (whc (tsk ss)) k) (hT : Row W (.slice (some ⟨x, 0, none⟩) k k) 1 (boc nob) k) => rnear_at g (tsk ss) (.slice adb k capb) (.slice (some ⟨x, 0, none⟩) k k) k W og ot (by omega) hR hT
      have R2 := fun W (hR : Row W (.slice adb k capb) 8 (whc (tsk ss)) k) => rnear_over g (tsk ss) (.slice adb k capb) k W og ot (by omega) hR
      have O1 := fun W (hR : Row W (.slice ada k capa) 4 (skc (tsk ss)) k) => order_any (tsk ss) (.slice ada k capa) k W ot (by omega) hR RM.out
      have O2 := fun W (hR : Row W (.slice adb k capb) 8 (whc (tsk ss)) k) => rorder_at (tsk ss) (.slice adb k capb) k W ot (by omega) hR
      have I1 := fun (p : Nat → Nat) W a1 c1 a2 c2 (h1 : Row W (.slice a1 k c1) 1 (inc p) k) (h2 : Row W (.slice a2 k c2) 1 (inc p) k) => ints_any p (.slice a1 k c1) (.slice a2 k c2) k W (by omega) h1 h2
      have mk := fun W => make_bool W k (by omega)
      unfold SV at N1 N2
      unfold WV at R1 R2
      generalize pos (bst every (fars g (tsk ss)) k) = z at N1 N2 R1 R2
      generalize pl (dist (tsk ss)) k = p at O1 O2
      have HN1 := Lib.hid N1
      have HN2 := Lib.hid N2
      have HR1 := Lib.hid R1
      have HR2 := Lib.hid R2
      have HO1 := Lib.hid O1
      have HO2 := Lib.hid O2
      have HI1 := Lib.hid (I1 p)
      clear N1 N2 R1 R2 O1 O2 I1 og ot hN HF1 HF2 HO RM
      go_upto_region 12 with fail
      go_region_held3 (fun W => (W.cell? ⟨bx, 0, none⟩ = some (.complex .f64 (FB (g 0)) (FB (g 1))) ∧ W.cell? ⟨bx, 1, none⟩ = some (.complex .f64 (FB (g 2)) (FB (g 3))) ∧ W.cell? ⟨bx, 2, none⟩ = some (.complex .f64 (FB (g 4)) (FB (g 5))) ∧ W.cell? ⟨bx, 3, none⟩ = some (.complex .f64 (FB (g 6)) (FB (g 7)))) ∧ (W.cell? ⟨by_, 0, none⟩ = some (.int .i64 (g 0)) ∧ W.cell? ⟨by_, 1, none⟩ = some (.int .i64 (g 1)) ∧ W.cell? ⟨by_, 2, none⟩ = some (.int .i64 (g 2)) ∧ W.cell? ⟨by_, 3, none⟩ = some (.int .i64 (g 3)) ∧ W.cell? ⟨by_, 4, none⟩ = some (.int .i64 (g 4)) ∧ W.cell? ⟨by_, 5, none⟩ = some (.int .i64 (g 5)) ∧ W.cell? ⟨by_, 6, none⟩ = some (.int .i64 (g 6)) ∧ W.cell? ⟨by_, 7, none⟩ = some (.int .i64 (g 7))) ∧ Row W (.slice ada k capa) 4 (skc (tsk ss)) k ∧ Row W (.slice adb k capb) 8 (whc (tsk ss)) k ∧ Below w.heap.size w W) (first | exact S0 | assumption | exact SQ.alloc (by assumption) _) (first | (go_at_call 8; refine (alive_any _).mono ?_; rintro e wa ⟨rfl, ba⟩; have Sa := SQ.keep (by assumption) ba) | (go_at_call 17; with_reducible refine (HN2.out _ (SQ.ra (by assumption))).mono ?_; rintro e wa ⟨rfl, ba, rt⟩; have Sa := SQ.keep (by assumption) ba) | (go_at_call 17; with_reducible refine (HN1.out _ (SQ.ra (by assumption))).mono ?_; rintro e wa ⟨rfl, ba⟩; have Sa := SQ.keep (by assumption) ba) | (go_at_call 18; with_reducible refine (HR2.out _ (SQ.rb (by assumption))).mono ?_; rintro e wa ⟨rfl, ba⟩; have Sa := SQ.keep (by assumption) ba) | (go_at_call 18; with_reducible refine (HR1.out _ _ (SQ.rb (by assumption)) (by assumption)).mono ?_; rintro e wa ⟨rfl, ba⟩; have Sa := SQ.keep (by assumption) ba) | (go_at_call 20; with_reducible refine (HO1.out _ (SQ.ra (by assumption))).mono ?_; rintro e wa ⟨a1, c1, rfl, ro, ba⟩; have Sa := SQ.keep (by assumption) ba) | (go_at_call 21; with_reducible refine (HO2.out _ (SQ.rb (by assumption))).mono ?_; rintro e wa ⟨a2, c2, rfl, rp, ba⟩; have Sa := SQ.keep (by assumption) ba; have rq := ro.below ba) | (go_at_call 19; with_reducible refine (HI1.out _ _ _ _ _ rq rp).mono ?_; rintro e wa ⟨rfl, ba⟩; have Sa := SQ.keep (by assumption) ba))
      all_goals
        go_wp2
        go_ret
        exact ⟨rfl, Sa.2.2.2.2⟩
theorem sketchnear_any (s : ByteArray) (ss : Nat → ByteArray) (v : Value) (len : Nat) (w : World) (hs : s.size ≤ 9223372036854775807) (hl : len ≤ 9223372036854775807) (hS : Strs w v ss len) :
    Calls Try.prog 4 #[.string s, v] w fun e w' => e = .returned (.bool true) ∧ Below w.heap.size w w' := by
  by_cases c : isGreat ss len = true ∨ 500 < s.size
  · exact near_long s ss v len w hs hl hS c
  · have hg : isGreat ss len = false := by
      cases h : isGreat ss len
      · rfl
      · exact absurd (Or.inl h) c
    obtain ⟨h30, h500⟩ := great_false hg
    exact near_short s ss v len w (by
      rcases Nat.lt_or_ge 500 s.size with h | h
      · exact absurd (Or.inr h) c
      · exact h) h30 h500 hg hS
end Go.Proofs.Ytmcaapgcplhhmaa
