import Derived.Test.YtmcaapgcplhhmaaW16
/- SketchPlus' function. -/
namespace Go.Proofs.Ytmcaapgcplhhmaa
open Go.RowKit
attribute [local go_sem] run_store_complex
abbrev SP (w : World) (b : Nat) (g : Nat → Int) (W : World) : Prop := W.cell? ⟨b, 0, none⟩ = some (.complex .f64 (FB (g 0)) (FB (g 1))) ∧ W.cell? ⟨b, 1, none⟩ = some (.complex .f64 (FB (g 2)) (FB (g 3))) ∧ W.cell? ⟨b, 2, none⟩ = some (.complex .f64 (FB (g 4)) (FB (g 5))) ∧ W.cell? ⟨b, 3, none⟩ = some (.complex .f64 (FB (g 6)) (FB (g 7))) ∧ Below w.heap.size w W
theorem SP.keep {w W w' : World} {b : Nat} {g : Nat → Int} (h : SP w b g W) (hb : Below W.heap.size W w') : SP w b g w' := by
  obtain ⟨h0, h1, h2, h3, h4⟩ := h
  have e := fun j => hb.cell (p := ⟨b, j, none⟩) (show b < W.heap.size from block_lt_of_cell h0)
  exact ⟨by rw [e]; exact h0, by rw [e]; exact h1, by rw [e]; exact h2, by rw [e]; exact h3, h4.trans (hb.mono h4.size)⟩
theorem SP.alloc {w W : World} {b : Nat} {g : Nat → Int} (h : SP w b g W) (o : Obj) : SP w b g (W.alloc o) := h.keep ((Below.refl _ _).alloc (Nat.le_refl _) o)
theorem of_one (s : ByteArray) (hs : s.size ≤ 1048576) (W : World) : Calls Try.prog 11 #[.slice (some ⟨W.heap.size, 0, none⟩) 1 1] (W.alloc (.cells #[.string s] 9)) fun e w' => e = .returned (SV (sk (bl s))) ∧ Below W.heap.size W w' := by
  have h := of_any (oneS s) _ 1 _ (by omega) (by rw [one_pre, bl_len]; exact hs) (strs_new W #[.string s] 9 (oneS s) 1 W.heap.size rfl (by decide) (one_cells s))
  rw [one_pre] at h
  exact h.mono fun e w' ⟨h1, h2⟩ => ⟨h1, alloc_below h2⟩
theorem of_cell (s : ByteArray) (hs : s.size ≤ 1048576) (W : World) (x : Nat) (hx : W.cell? ⟨x, 0, none⟩ = some (.string s)) : Calls Try.prog 11 #[.slice (some ⟨x, 0, none⟩) 1 1] W fun e w' => e = .returned (SV (sk (bl s))) ∧ Below W.heap.size W w' := by
  have h := of_any (oneS s) (.slice (some ⟨x, 0, none⟩) 1 1) 1 W (by omega) (by rw [one_pre, bl_len]; exact hs) (Or.inr ⟨x, 0, 1, rfl, by omega, block_lt_of_cell hx, fun i hi => by
    obtain rfl : i = 0 := by omega
    exact hx⟩)
  rw [one_pre] at h
  exact h
/- two texts laid, then the sketch of the first, or of the second -/
theorem of_first (s t : ByteArray) (hs : s.size ≤ 1048576) (W : World) : Calls Try.prog 11 #[.slice (some ⟨W.heap.size, 0, none⟩) 1 1] ((W.alloc (.cells #[.string s] 9)).alloc (.cells #[.string t] 9)) fun e w' => e = .returned (SV (sk (bl s))) ∧ Below W.heap.size W w' ∧ w'.cell? ⟨W.heap.size + 1, 0, none⟩ = some (.string t) := by
  have e1 : (W.alloc (.cells #[.string s] 9)).heap.size = W.heap.size + 1 := by simp
  have c1 : ((W.alloc (.cells #[.string s] 9)).alloc (.cells #[.string t] 9)).cell? ⟨W.heap.size, 0, none⟩ = some (.string s) := by
    rw [Below.cell ((Below.refl _ _).alloc (Nat.le_refl _) _) (p := ⟨W.heap.size, 0, none⟩) (by rw [e1]; exact Nat.lt_succ_self _), cell_of_row _ _ _ _ _ _ (heap_alloc_new W _)]
    rfl
  have c2 : ((W.alloc (.cells #[.string s] 9)).alloc (.cells #[.string t] 9)).cell? ⟨W.heap.size + 1, 0, none⟩ = some (.string t) := by
    rw [← e1, cell_of_row _ _ _ _ _ _ (heap_alloc_new (W.alloc (.cells #[.string s] 9)) _)]
    rfl
  refine (of_cell s hs _ _ c1).mono fun e w' ⟨h1, h2⟩ => ⟨h1, alloc_below (alloc_below h2), ?_⟩
  rw [h2.cell (block_lt_of_cell c2)]
  exact c2
theorem of_second (s t : ByteArray) (hs : s.size ≤ 1048576) (W : World) : Calls Try.prog 11 #[.slice (some ⟨W.heap.size + 1, 0, none⟩) 1 1] ((W.alloc (.cells #[.string t] 9)).alloc (.cells #[.string s] 9)) fun e w' => e = .returned (SV (sk (bl s))) ∧ Below W.heap.size W w' ∧ w'.cell? ⟨W.heap.size, 0, none⟩ = some (.string t) := by
  have e1 : (W.alloc (.cells #[.string t] 9)).heap.size = W.heap.size + 1 := by simp
  have c1 : ((W.alloc (.cells #[.string t] 9)).alloc (.cells #[.string s] 9)).cell? ⟨W.heap.size, 0, none⟩ = some (.string t) := by
    rw [Below.cell ((Below.refl _ _).alloc (Nat.le_refl _) _) (p := ⟨W.heap.size, 0, none⟩) (by rw [e1]; exact Nat.lt_succ_self _), cell_of_row _ _ _ _ _ _ (heap_alloc_new W _)]
    rfl
  have c2 : ((W.alloc (.cells #[.string t] 9)).alloc (.cells #[.string s] 9)).cell? ⟨W.heap.size + 1, 0, none⟩ = some (.string s) := by
    rw [← e1, cell_of_row _ _ _ _ _ _ (heap_alloc_new (W.alloc (.cells #[.string t] 9)) _)]
    rfl
  refine (of_cell s hs _ _ c2).mono fun e w' ⟨h1, h2⟩ => ⟨h1, alloc_below (alloc_below h2), ?_⟩
  rw [h2.cell (block_lt_of_cell c1)]
  exact c1
theorem of_two (s t : ByteArray) (hs : s.size + t.size ≤ 1048576) (W : World) : Calls Try.prog 11 #[.slice (some ⟨W.heap.size, 0, none⟩) 2 2] (W.alloc (.cells #[.string s, .string t] 9)) fun e w' => e = .returned (SV (sk (bl s ++ bl t))) ∧ Below W.heap.size W w' := by
  have h := of_any (twoS s t) _ 2 _ (by omega) (by rw [two_pre, List.length_append, bl_len, bl_len]; exact hs) (strs_new W #[.string s, .string t] 9 (twoS s t) 2 W.heap.size rfl (by decide) (two_cells s t))
  rw [two_pre] at h
  exact h.mono fun e w' ⟨h1, h2⟩ => ⟨h1, alloc_below h2⟩
set_option maxHeartbeats 2000000 in
theorem plus_long (s t : ByteArray) (w : World) (h : 2000 < s.size ∨ 2000 < t.size) :
    Calls Try.prog 5 #[.string s, .string t] w fun e w' => e = .returned (.bool true) ∧ Below w.heap.size w w' := by
  by_cases c1 : 2000 < s.size
  · have b1 : (2000 : Int) < (s.size : Int) := by omega
    go_enter Try.func5, Try.ntmps5
    go_wp2_with fail
    refine (alive_any _).mono ?_
    rintro e w1 ⟨rfl, L1⟩
    go_wp2_with fail
    refine (alive_any _).mono ?_
    rintro e w2 ⟨rfl, B2⟩
    go_wp2
    go_ret
    exact ⟨rfl, L1.trans (B2.mono L1.size)⟩
  · have b1 : (s.size : Int) ≤ 2000 := by omega
    have b2 : (2000 : Int) < (t.size : Int) := by omega
    go_enter Try.func5, Try.ntmps5
    go_wp2_with fail
    refine (alive_any _).mono ?_
    rintro e w1 ⟨rfl, L1⟩
    go_wp2_with fail
    refine (alive_any _).mono ?_
    rintro e w2 ⟨rfl, B2⟩
    go_wp2
    go_ret
    exact ⟨rfl, L1.trans (B2.mono L1.size)⟩
theorem drop_pred (s : ByteArray) (q : Nat) (h : q < s.size) : (bl s).drop q = sAt s q :: (bl s).drop (q + 1) := by
  have hl := bl_len s
  rw [List.drop_eq_getElem_cons (by omega)]
  congr 1
  unfold sAt
  rw [List.getD_eq_getElem?_getD]
  show _ = ((bl s)[q]?).getD 0
  rw [List.getElem?_eq_getElem (by omega)]
  rfl
set_option maxHeartbeats 8000000 in
theorem plus_short (s t : ByteArray) (w : World) (h1 : s.size ≤ 2000) (h2 : t.size ≤ 2000) :
    Calls Try.prog 5 #[.string s, .string t] w fun e w' => e = .returned (.bool true) ∧ Below w.heap.size w w' := by
  have b1 : (s.size : Int) ≤ 2000 := by omega
  have b2 : (t.size : Int) ≤ 2000 := by omega
  have ws : IntKind.i64.wrap ((s.size : Int) - 1) = (s.size : Int) - 1 := IntWalk.i64_in _ (by omega)
  go_enter Try.func5, Try.ntmps5
  go_wp2_with fail
  refine (alive_any _).mono ?_
  rintro e w1 ⟨rfl, L1⟩
  go_wp2_with fail
  go_loopw [5, 6] (fun b i wr => ∃ (j : Nat) (x : Int) (u : ByteArray), j ≤ s.size ∧ i = .int .i64 x ∧ Hid (x = (j : Int) - 1) ∧ b = .string u ∧ Hid (bl u = ((bl s).drop j).reverse) ∧ w1 = wr) (fun _ i _ => ((intOf i) + 1).toNat)
  case atStart => exact ⟨s.size, _, _, by omega, rfl, rfl, rfl, by show _ = _; rw [List.drop_of_length_le (by rw [bl_len]; omega)]; rfl, rfl⟩
  case round =>
    obtain ⟨j, x, u, hj, rfl, hx, rfl, hu, rfl⟩ := hrel
    cases j with
    | zero =>
      have x0 : x = -1 := by rw [hx.out]; rfl
      subst x0
      have hu' : bl u = (bl s).reverse := hu.out
      clear hu hx
      have hus : u.size = s.size := by rw [← bl_len, hu', List.length_reverse, bl_len]
      obtain ⟨g, hg⟩ : ∃ g, g = sk (bl (s ++ t)) := ⟨_, rfl⟩
      obtain ⟨a, ha⟩ : ∃ a, a = sk (bl s) := ⟨_, rfl⟩
      obtain ⟨c, hc⟩ : ∃ c, c = sk (bl t) := ⟨_, rfl⟩
      have hst : (s ++ t).size = s.size + t.size := ByteArray.size_append
      have og : Ok g := by rw [hg]; exact Ok.sk (by rw [bl_len, hst]; omega)
      have oa : Ok a := by rw [ha]; exact Ok.sk (by rw [bl_len]; omega)
      have oc : Ok c := by rw [hc]; exact Ok.sk (by rw [bl_len]; omega)
      have eg : ∀ i, add2 a c i = g i := fun i => by rw [hg, ha, hc, bl_append, sk_append]; rfl
      have C1 := fun W => of_one (s ++ t) (by omega) W
      have CS := fun W => of_one s (by omega) W
      have CT := fun W => of_one t (by omega) W
      have CS2 := fun W => of_first s t (by omega) W
      have CS3 := fun W => of_second s t (by omega) W
      have CT2 := fun W x hx => of_cell t (by omega) W x hx
      have CP := fun W => plus_any a c oa oc W
      have C2 := fun W => of_two t u (by omega) W
      rw [← hg] at C1
      rw [← ha] at CS CS2 CS3
      rw [← hc] at CT CT2
      have e1 : SV (add2 a c) = SV g := SV_congr fun i _ => eg i
      have e2 : SV (sk (bl t ++ bl u)) = SV g := SV_congr fun i _ => by
        rw [hg, bl_append, sk_append, sk_append, hu', sk_reverse]; omega
      rw [e1] at CP
      rw [e2] at C2
      have hE := fun w => eql_sk g g og og w
      rw [decide_eq_true (far_self g)] at hE
      unfold SV at C1 CS CT CP C2 CS2 CS3 CT2 hE
      have H1 := Lib.hid C1
      have HS := Lib.hid CS
      have HT := Lib.hid CT
      have HP := Lib.hid CP
      have HS2 := Lib.hid CS2
      have HS3 := Lib.hid CS3
      have HT2 := Lib.hid CT2
      have H2 := Lib.hid C2
      have n2 : ¬ 9223372036854775807 < s.size + t.size := by omega
      clear C1 CS CT CP C2 CS2 CS3 CT2 e1 e2 eg oa oc og hc ha hg hus hu' hst
      go_wp2_with fail
      refine (H1.out _).mono ?_
      rintro e w2 ⟨rfl, B2⟩
      have L2 := L1.trans (B2.mono L1.size)
      clear B2 H1
      go_upto_region 11 with fail
      have S0 : SP w w2.heap.size g (w2.alloc (.cells #[.complex .f64 (FB (g 0)) (FB (g 1)), .complex .f64 (FB (g 2)) (FB (g 3)), .complex .f64 (FB (g 4)) (FB (g 5)), .complex .f64 (FB (g 6)) (FB (g 7))] 28)) := by
        have h := Blk.new w2 _ 28 4 _ (sv_arr g)
        exact ⟨h.cell 0 (by omega), h.cell 1 (by omega), h.cell 2 (by omega), h.cell 3 (by omega), L2.alloc L2.size _⟩
      clear L1 L2
      generalize w2.alloc (.cells #[.complex .f64 (FB (g 0)) (FB (g 1)), .complex .f64 (FB (g 2)) (FB (g 3)), .complex .f64 (FB (g 4)) (FB (g 5)), .complex .f64 (FB (g 6)) (FB (g 7))] 28) = w3 at S0 ⊢
      generalize w2.heap.size = b at S0 ⊢
      have S1 : SP w b g w3.drew := S0.keep (Below.refl _ _).drew
      go_region_held3 (fun W => W.cell? ⟨b, 0, none⟩ = some (.complex .f64 (FB (g 0)) (FB (g 1))) ∧ W.cell? ⟨b, 1, none⟩ = some (.complex .f64 (FB (g 2)) (FB (g 3))) ∧ W.cell? ⟨b, 2, none⟩ = some (.complex .f64 (FB (g 4)) (FB (g 5))) ∧ W.cell? ⟨b, 3, none⟩ = some (.complex .f64 (FB (g 6)) (FB (g 7))) ∧ Below w.heap.size w W) (first | exact S1 | assumption | exact SP.alloc (by assumption) _) (first | (go_at_call 8; refine (alive_any _).mono ?_; rintro e wa ⟨rfl, ba⟩; have Sa := SP.keep (by assumption) ba) | (go_at_call 22; refine (HP.out _).mono ?_; rintro e wa ⟨rfl, ba⟩; have Sa := SP.keep (by assumption) ba) | (go_at_call 11; with_reducible refine (HS.out _).mono ?_; rintro e wa ⟨rfl, ba⟩; have Sa := SP.keep (by assumption) ba) | (go_at_call 11; with_reducible refine (HT.out _).mono ?_; rintro e wa ⟨rfl, ba⟩; have Sa := SP.keep (by assumption) ba) | (go_at_call 11; with_reducible refine (HS2.out _).mono ?_; rintro e wa ⟨rfl, ba, ct⟩; have Sa := SP.keep (by assumption) ba) | (go_at_call 11; with_reducible refine (HS3.out _).mono ?_; rintro e wa ⟨rfl, ba, ct⟩; have Sa := SP.keep (by assumption) ba) | (go_at_call 11; with_reducible refine (HT2.out _ _ (by assumption)).mono ?_; rintro e wa ⟨rfl, ba⟩; have Sa := SP.keep (by assumption) ba) | (go_at_call 11; with_reducible refine (H2.out _).mono ?_; rintro e wa ⟨rfl, ba⟩; have Sa := SP.keep (by assumption) ba))
      all_goals
        go_wp2
        go_ret
        exact ⟨rfl, Sa.2.2.2.2⟩
    | succ q =>
      have x0 : x = (q : Int) := by rw [hx.out]; omega
      subst x0
      obtain ⟨t1, ht1⟩ : ∃ t1, t1 = s.extract q (q + 1) := ⟨_, rfl⟩
      have hb : bl t1 = [sAt s q] := by rw [ht1]; exact bl_ext_one s q (by omega)
      have hz : t1.size = 1 := by rw [← bl_len, hb]; rfl
      have et : s.extract q (q + 1) = t1 := ht1.symm
      have hus : u.size ≤ 2000 := by rw [← bl_len, hu.out, List.length_reverse, List.length_drop, bl_len]; omega
      have n1 : ¬ 9223372036854775807 < u.size + t1.size := by omega
      have HU : Hid (bl (u ++ t1) = ((bl s).drop q).reverse) := by show _ = _; rw [bl_append, hu.out, hb, drop_pred s q (by omega), List.reverse_cons]
      have zq : (0 : Int) ≤ (q : Int) := by omega
      have yq : (q : Int) + 1 ≤ (s.size : Int) := by omega
      clear hx ht1 hb hu
      go_wp2
      go_roundw
      case rel => exact ⟨q, _, _, by omega, rfl, by show _ = _; go_num, rfl, HU, trivial⟩
      case measure => simp [intOf]
theorem sketchplus_any (s t : ByteArray) (w : World) :
    Calls Try.prog 5 #[.string s, .string t] w fun e w' => e = .returned (.bool true) ∧ Below w.heap.size w w' := by
  by_cases c : 2000 < s.size ∨ 2000 < t.size
  · exact plus_long s t w c
  · exact plus_short s t w (by omega) (by omega)
end Go.Proofs.Ytmcaapgcplhhmaa
