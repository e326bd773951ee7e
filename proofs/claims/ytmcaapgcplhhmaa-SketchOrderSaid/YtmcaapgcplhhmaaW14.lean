import Derived.Test.YtmcaapgcplhhmaaW13
import Derived.Deep.RegionHeld3
/- The reference's Near. -/
namespace Go.Proofs.Ytmcaapgcplhhmaa
open Go.RowKit
abbrev C8 (W : World) (b o : Nat) (f : Nat → Int) : Prop := W.cell? ⟨b, o, none⟩ = some (.int .i64 (f 0)) ∧ W.cell? ⟨b, o + 1, none⟩ = some (.int .i64 (f 1)) ∧ W.cell? ⟨b, o + 2, none⟩ = some (.int .i64 (f 2)) ∧ W.cell? ⟨b, o + 3, none⟩ = some (.int .i64 (f 3)) ∧ W.cell? ⟨b, o + 4, none⟩ = some (.int .i64 (f 4)) ∧ W.cell? ⟨b, o + 5, none⟩ = some (.int .i64 (f 5)) ∧ W.cell? ⟨b, o + 6, none⟩ = some (.int .i64 (f 6)) ∧ W.cell? ⟨b, o + 7, none⟩ = some (.int .i64 (f 7))
theorem C8.keep {W w' : World} {b o : Nat} {f : Nat → Int} (h : C8 W b o f) (hb : Below W.heap.size W w') : C8 w' b o f := by
  obtain ⟨h0, h1, h2, h3, h4, h5, h6, h7⟩ := h
  have e := fun j => hb.cell (p := ⟨b, j, none⟩) (show b < W.heap.size from block_lt_of_cell h0)
  exact ⟨by rw [e]; exact h0, by rw [e]; exact h1, by rw [e]; exact h2, by rw [e]; exact h3, by rw [e]; exact h4, by rw [e]; exact h5, by rw [e]; exact h6, by rw [e]; exact h7⟩
theorem c8_of {W : World} {b o : Nat} {f : Nat → Int} (h : ∀ j, j < 8 → W.cell? ⟨b, o + j, none⟩ = some (.int .i64 (f j))) : C8 W b o f :=
  ⟨h 0 (by omega), h 1 (by omega), h 2 (by omega), h 3 (by omega), h 4 (by omega), h 5 (by omega), h 6 (by omega), h 7 (by omega)⟩
abbrev SN (w : World) (g : Nat → Int) (gs : Nat → Nat → Int) (b o b3 o3 k b2 : Nat) (W : World) : Prop :=
  W.cell? ⟨b3, o3 + k, none⟩ = some (.bool false) ∧ C8 W w.heap.size 0 g ∧ C8 W b (o + k * 8) (gs k) ∧ C8 W b (o + b2 * 8) (gs b2) ∧ Blk W w.heap.size 31 8 (wv g) ∧ Below w.heap.size w W
theorem SN.keep {w : World} {g : Nat → Int} {gs : Nat → Nat → Int} {b o b3 o3 k b2 : Nat} {W w' : World} (h : SN w g gs b o b3 o3 k b2 W) (hb : Below W.heap.size W w') : SN w g gs b o b3 o3 k b2 w' := by
  obtain ⟨h0, h1, h2, h3, h4, h5⟩ := h
  exact ⟨by rw [hb.cell (block_lt_of_cell h0)]; exact h0, h1.keep hb, h2.keep hb, h3.keep hb, h4.below hb h4.lt, h5.trans (hb.mono h5.size)⟩
set_option maxHeartbeats 8000000 in
theorem rnear_any (g : Nat → Int) (gs : Nat → Nat → Int) (tk : Nat → Bool) (v u : Value) (len : Nat) (w : World) (hg : Ok g) (hgs : ∀ i, i < len → Ok (gs i)) (hl : len ≤ 1000000) (hR : Row w v 8 (whc gs) len) (hT : Row w u 1 (boc tk) len) :
    Calls Try.prog 18 #[WV g, v, u] w fun e w' => e = .returned (.int .i64 (pos (bst (fun i => !tk i) (fars g gs) len))) ∧ Below w.heap.size w w' := by
  obtain ⟨ad, cap, rfl, ha⟩ := row_addr hR
  obtain ⟨ad2, cap2, rfl, ha2⟩ := row_addr hT
  clear hR hT
  have HA := Lib.hid ha
  have HA2 := Lib.hid ha2
  clear ha ha2
  have HF := Lib.hid (fun i hi w => rfar_any g (gs i) hg (hgs i hi) w)
  clear hg hgs
  unfold WV
  go_enter Try.func18, Try.ntmps18
  go_wp2
  go_loopw [7, 8] (fun n i wr => ∃ (k : Nat) (z : Int), k ≤ len ∧ i = .int .i64 k ∧ n = .int .i64 z ∧ Hid (z = pos (bst (fun i => !tk i) (fars g gs) k)) ∧ Hid (Blk wr w.heap.size 31 8 (wv g)) ∧ Hid (Below w.heap.size w wr)) (fun _ i _ => len - (intOf i).toNat)
  case atStart => exact ⟨0, -1, by omega, rfl, rfl, rfl, Blk.new w _ 31 8 _ (wv_arr g), (Below.refl _ _).alloc (Nat.le_refl _) _⟩
  case round =>
    obtain ⟨k, z, hk, rfl, rfl, hZ, hB, hL⟩ := hrel
    by_cases hlt : k < len
    · obtain ⟨b, o, rfl, hb, hc⟩ := HA.out (by omega)
      obtain ⟨b3, o3, rfl, hb3, hc3⟩ := HA2.out (by omega)
      have zk : (0 : Int) ≤ (k : Int) := by omega
      have yk : (k : Int) < (len : Int) := by omega
      have ct : wr.cell? ⟨b3, o3 + k, none⟩ = some (.bool (tk k)) := by rw [hL.out.cell hb3]; exact hc3 k (by omega)
      clear hc3 hb3
      cases ht : tk k
      · rw [ht] at ct
        cases hbk : bst (fun i => !tk i) (fars g gs) k with
        | none =>
          have z0 : z = -1 := by rw [hZ.out, hbk]; decide
          subst z0
          have N1 : Hid (bst (fun i => !tk i) (fars g gs) (k + 1) = some k) := bst_first (by rw [ht]; rfl) hbk
          clear hZ hbk hc HF HA HA2
          go_wp2
          go_region
          have H0 := Lib.hid hB.out.drew
          have H1 := Lib.hid hL.out.drew
          clear hB hL ct
          generalize wr.drew = w5 at H0 H1 ⊢
          go_wp2
          go_roundw
          case rel => exact ⟨k + 1, k, by omega, by go_num, rfl, by rw [N1.out]; rfl, H0, H1⟩
          case measure => simp [intOf]; omega
        | some b2 =>
          have hb2 := (bst_some hbk).1
          have z0 : z = (b2 : Int) := by rw [hZ.out, hbk]; rfl
          subst z0
          clear hZ
          have zb : (0 : Int) ≤ (b2 : Int) := by omega
          have yb : (b2 : Int) < (len : Int) := by omega
          have S0 : SN w g gs b o b3 o3 k b2 wr.drew := by
            refine ⟨ct, ?_, ?_, ?_, hB.out.drew, hL.out.drew⟩
            · exact c8_of fun j hj => by rw [Nat.zero_add]; exact hB.out.cell j hj
            · exact c8_of fun j hj => by
                show wr.cell? _ = _
                rw [hL.out.cell hb, Nat.add_assoc, hc _ (by omega), whc_at _ _ _ hj]; rfl
            · exact c8_of fun j hj => by
                show wr.cell? _ = _
                rw [hL.out.cell hb, Nat.add_assoc, hc _ (by omega), whc_at _ _ _ hj]; rfl
          clear hc
          have FF : ∀ i, i < len → ∀ W, Calls Try.prog 16 #[WV g, WV (gs i)] W fun e w' => e = .returned (.int .i64 (fars g gs i : Int)) ∧ Below W.heap.size W w' := fun i hi W => HF.out i hi W
          unfold WV at FF
          have HFF := Lib.hid FF
          clear FF HF HA HA2 ct
          have db : decide ((b2 : Int) < 0) = false := decide_eq_false (by omega)
          by_cases cf : fars g gs k < fars g gs b2
          · have N1 : Hid (bst (fun i => !tk i) (fars g gs) (k + 1) = some k) := bst_less (by rw [ht]; rfl) hbk cf
            have cf' : decide (fars g gs k < fars g gs b2) = true := decide_eq_true cf
            clear hbk cf hB hL
            go_wp2
            go_region_held3 (fun W => W.cell? ⟨b3, o3 + k, none⟩ = some (.bool false) ∧ (W.cell? ⟨w.heap.size, 0, none⟩ = some (.int .i64 (g 0)) ∧ W.cell? ⟨w.heap.size, 1, none⟩ = some (.int .i64 (g 1)) ∧ W.cell? ⟨w.heap.size, 2, none⟩ = some (.int .i64 (g 2)) ∧ W.cell? ⟨w.heap.size, 3, none⟩ = some (.int .i64 (g 3)) ∧ W.cell? ⟨w.heap.size, 4, none⟩ = some (.int .i64 (g 4)) ∧ W.cell? ⟨w.heap.size, 5, none⟩ = some (.int .i64 (g 5)) ∧ W.cell? ⟨w.heap.size, 6, none⟩ = some (.int .i64 (g 6)) ∧ W.cell? ⟨w.heap.size, 7, none⟩ = some (.int .i64 (g 7))) ∧ (W.cell? ⟨b, o + k * 8, none⟩ = some (.int .i64 (gs k 0)) ∧ W.cell? ⟨b, o + k * 8 + 1, none⟩ = some (.int .i64 (gs k 1)) ∧ W.cell? ⟨b, o + k * 8 + 2, none⟩ = some (.int .i64 (gs k 2)) ∧ W.cell? ⟨b, o + k * 8 + 3, none⟩ = some (.int .i64 (gs k 3)) ∧ W.cell? ⟨b, o + k * 8 + 4, none⟩ = some (.int .i64 (gs k 4)) ∧ W.cell? ⟨b, o + k * 8 + 5, none⟩ = some (.int .i64 (gs k 5)) ∧ W.cell? ⟨b, o + k * 8 + 6, none⟩ = some (.int .i64 (gs k 6)) ∧ W.cell? ⟨b, o + k * 8 + 7, none⟩ = some (.int .i64 (gs k 7))) ∧ (W.cell? ⟨b, o + b2 * 8, none⟩ = some (.int .i64 (gs b2 0)) ∧ W.cell? ⟨b, o + b2 * 8 + 1, none⟩ = some (.int .i64 (gs b2 1)) ∧ W.cell? ⟨b, o + b2 * 8 + 2, none⟩ = some (.int .i64 (gs b2 2)) ∧ W.cell? ⟨b, o + b2 * 8 + 3, none⟩ = some (.int .i64 (gs b2 3)) ∧ W.cell? ⟨b, o + b2 * 8 + 4, none⟩ = some (.int .i64 (gs b2 4)) ∧ W.cell? ⟨b, o + b2 * 8 + 5, none⟩ = some (.int .i64 (gs b2 5)) ∧ W.cell? ⟨b, o + b2 * 8 + 6, none⟩ = some (.int .i64 (gs b2 6)) ∧ W.cell? ⟨b, o + b2 * 8 + 7, none⟩ = some (.int .i64 (gs b2 7))) ∧ Blk W w.heap.size 31 8 (wv g) ∧ Below w.heap.size w W) (first | exact S0 | assumption) (first | (go_at_call 16; refine (HFF.out _ (by omega) _).mono ?_; rintro e wa ⟨rfl, ba⟩; have Sa := SN.keep (by assumption) ba))
            have H0 := Lib.hid Sa.2.2.2.2.1
            have H1 := Lib.hid Sa.2.2.2.2.2
            clear S0 HFF
            go_wp2
            go_roundw
            case rel => exact ⟨k + 1, k, by omega, by go_num, rfl, by rw [N1.out]; rfl, H0, H1⟩
            case measure => simp [intOf]; omega
          · have N1 : Hid (bst (fun i => !tk i) (fars g gs) (k + 1) = some b2) := bst_more hbk (fun _ => cf)
            have cf' : decide (fars g gs k < fars g gs b2) = false := decide_eq_false cf
            clear hbk cf hB hL
            go_wp2
            go_region_held3 (fun W => W.cell? ⟨b3, o3 + k, none⟩ = some (.bool false) ∧ (W.cell? ⟨w.heap.size, 0, none⟩ = some (.int .i64 (g 0)) ∧ W.cell? ⟨w.heap.size, 1, none⟩ = some (.int .i64 (g 1)) ∧ W.cell? ⟨w.heap.size, 2, none⟩ = some (.int .i64 (g 2)) ∧ W.cell? ⟨w.heap.size, 3, none⟩ = some (.int .i64 (g 3)) ∧ W.cell? ⟨w.heap.size, 4, none⟩ = some (.int .i64 (g 4)) ∧ W.cell? ⟨w.heap.size, 5, none⟩ = some (.int .i64 (g 5)) ∧ W.cell? ⟨w.heap.size, 6, none⟩ = some (.int .i64 (g 6)) ∧ W.cell? ⟨w.heap.size, 7, none⟩ = some (.int .i64 (g 7))) ∧ (W.cell? ⟨b, o + k * 8, none⟩ = some (.int .i64 (gs k 0)) ∧ W.cell? ⟨b, o + k * 8 + 1, none⟩ = some (.int .i64 (gs k 1)) ∧ W.cell? ⟨b, o + k * 8 + 2, none⟩ = some (.int .i64 (gs k 2)) ∧ W.cell? ⟨b, o + k * 8 + 3, none⟩ = some (.int .i64 (gs k 3)) ∧ W.cell? ⟨b, o + k * 8 + 4, none⟩ = some (.int .i64 (gs k 4)) ∧ W.cell? ⟨b, o + k * 8 + 5, none⟩ = some (.int .i64 (gs k 5)) ∧ W.cell? ⟨b, o + k * 8 + 6, none⟩ = some (.int .i64 (gs k 6)) ∧ W.cell? ⟨b, o + k * 8 + 7, none⟩ = some (.int .i64 (gs k 7))) ∧ (W.cell? ⟨b, o + b2 * 8, none⟩ = some (.int .i64 (gs b2 0)) ∧ W.cell? ⟨b, o + b2 * 8 + 1, none⟩ = some (.int .i64 (gs b2 1)) ∧ W.cell? ⟨b, o + b2 * 8 + 2, none⟩ = some (.int .i64 (gs b2 2)) ∧ W.cell? ⟨b, o + b2 * 8 + 3, none⟩ = some (.int .i64 (gs b2 3)) ∧ W.cell? ⟨b, o + b2 * 8 + 4, none⟩ = some (.int .i64 (gs b2 4)) ∧ W.cell? ⟨b, o + b2 * 8 + 5, none⟩ = some (.int .i64 (gs b2 5)) ∧ W.cell? ⟨b, o + b2 * 8 + 6, none⟩ = some (.int .i64 (gs b2 6)) ∧ W.cell? ⟨b, o + b2 * 8 + 7, none⟩ = some (.int .i64 (gs b2 7))) ∧ Blk W w.heap.size 31 8 (wv g) ∧ Below w.heap.size w W) (first | exact S0 | assumption) (first | (go_at_call 16; refine (HFF.out _ (by omega) _).mono ?_; rintro e wa ⟨rfl, ba⟩; have Sa := SN.keep (by assumption) ba))
            have H0 := Lib.hid Sa.2.2.2.2.1
            have H1 := Lib.hid Sa.2.2.2.2.2
            clear S0 HFF
            go_wp2
            go_roundw
            case rel => exact ⟨k + 1, b2, by omega, by go_num, rfl, by rw [N1.out]; rfl, H0, H1⟩
            case measure => simp [intOf]; omega
      · rw [ht] at ct
        have N1 : Hid (bst (fun i => !tk i) (fars g gs) (k + 1) = bst (fun i => !tk i) (fars g gs) k) := bst_skip (by rw [ht]; rfl)
        clear hc HF HA HA2
        go_wp2
        go_region
        have H0 := Lib.hid hB.out.drew
        have H1 := Lib.hid hL.out.drew
        clear hB hL ct
        generalize wr.drew = w5 at H0 H1 ⊢
        go_wp2
        go_roundw
        case rel => exact ⟨k + 1, z, by omega, by go_num, rfl, by rw [N1.out]; exact hZ.out, H0, H1⟩
        case measure => simp [intOf]; omega
    · have e : k = len := by omega
      subst e
      have yk : (k : Int) ≤ (k : Int) := by omega
      go_wp2
      go_ret
      rw [hZ.out]
      exact ⟨rfl, hL.out⟩
end Go.Proofs.Ytmcaapgcplhhmaa
