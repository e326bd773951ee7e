import Derived.Test.YtailacdlnlanbaaR1
/- WindowRolls' function. -/
namespace Go.Proofs.Ytailacdlnlanbaa
open Go.RowKit
theorem nums_cell {B : Nat} {w : World} {g n cap : Nat} {xs : List Value} {f : Nat → UInt8} (h : w.ownsRow B 24 1 (.slice (some ⟨g, 0, none⟩) n cap) n xs) (hX : Nums f n xs) (j : Nat) (hj : j < n) :
    ∃ c d, w.cell? ⟨g, j, none⟩ = some (.complex .f64 c d) ∧ Cx c d (wx (sh f j) 16) (wy (sh f j) 16) := by
  obtain ⟨c, d, h1, h2⟩ := hX.2 j hj
  refine ⟨c, d, ?_, h2⟩
  have := h.cells (g := g) rfl j _ h1
  rw [← this]
  first | rfl | (congr 1; simp [Addr.add])
set_option maxHeartbeats 4000000 in
theorem rolls_any (s : ByteArray) (w : World) (hs : s.size ≤ 9223372036854775807) :
    Calls Try.prog 4 #[.string s] w fun e w' => e = .returned (.bool true) ∧ Below w.heap.size w w' := by
  by_cases h2000 : 2000 < s.size
  · have b1 : (2000 : Int) < (s.size : Int) := by omega
    go_enter Try.func4, Try.ntmps4
    go_wp2_with fail
    refine (alive_any _).mono ?_
    rintro e w1 ⟨rfl, B1⟩
    go_wp2_with fail
    refine (alive_any _).mono ?_
    rintro e w2 ⟨rfl, B2⟩
    go_wp2
    go_ret
    exact ⟨rfl, B1.trans (B2.mono B1.size)⟩
  · have b1 : (s.size : Int) ≤ 2000 := by omega
    by_cases h16 : s.size < 16
    · have b2 : (s.size : Int) < 16 := by omega
      go_enter Try.func4, Try.ntmps4
      go_wp2_with fail
      refine (alive_any _).mono ?_
      rintro e w1 ⟨rfl, B1⟩
      go_wp2_with fail
      refine (all_few s _ h16).mono ?_
      rintro e w2 ⟨rfl, rfl⟩
      go_wp2_with fail
      refine (alive_any _).mono ?_
      rintro e w3 ⟨rfl, B3⟩
      go_wp2
      go_ret
      exact ⟨rfl, B1.trans (B3.mono B1.size)⟩
    · have b2 : (16 : Int) ≤ (s.size : Int) := by omega
      obtain ⟨f, hf⟩ : ∃ f, f = sAt s := ⟨_, rfl⟩
      obtain ⟨n, hn⟩ : ∃ n, n = s.size - 15 := ⟨_, rfl⟩
      have CA : Hid (∀ W : World, Calls Try.prog 12 #[.string s] W fun e w' => ∃ g cap xs, e = .returned (.slice (some ⟨g, 0, none⟩) n cap) ∧ w'.ownsRow W.heap.size 24 1 (.slice (some ⟨g, 0, none⟩) n cap) n xs ∧ Nums f n xs ∧ Below W.heap.size W w') := fun W => by
        rw [hn]; exact all_any s f W (by omega) (by omega) hf
      obtain ⟨t, ht⟩ : ∃ t, t = s.extract 0 16 := ⟨_, rfl⟩
      have ts : t.size = 16 := by rw [ht, size_ext s 0 16 (by omega) (by omega)]
      have tf : ∀ j, j < 16 → sAt t j = sh f 0 j := fun j hj => by rw [ht, hf, sAt_ext s 0 16 j (by omega) (by omega) (by omega)]; rfl
      have C1 : Hid (∀ W : World, Calls Try.prog 9 #[.string t] W fun e w' => ∃ c d, e = .returned (.tuple #[.complex .f64 c d, .bool true]) ∧ Cx c d (wx (sh f 0) 16) (wy (sh f 0) 16) ∧ Below W.heap.size W w') := fun W => of_win t (sh f 0) W ts tf
      have IX : Hid (∀ i : Nat, i < s.size → ∀ w : World, (Instr.index 9 (.string s) (.int .i64 (i : Int))).run Try.prog w = .ok (.int .u8 ((f i).toNat : Int)) w) := fun i hi w => by
        rw [hf]; exact idx_str s i hi w
      have CP : Hid (∀ (k : Nat) (W : World), k < n → Calls Try.prog 10 #[.string s, .int .i64 (k : Int)] W fun e w' => e = .returned (.tuple #[.int .i64 (wx (sh f k) 16), .int .i64 (wy (sh f k) 16)]) ∧ Below W.heap.size W w') := fun k W hk => parts_any s k (sh f k) W (by omega) (by omega) (fun i _ => by rw [hf]; rfl)
      have et : s.extract 0 16 = t := ht.symm
      have b3 : IntKind.i64.wrap ((s.size : Int) - 15) = (n : Int) := by rw [show (s.size : Int) - 15 = (n : Int) by omega]; exact IntWalk.i64_in _ (by omega)
      have HN := Lib.hid (show s.size = n + 15 ∧ n ≤ 1985 ∧ 0 < n by omega)
      clear hf ht ts tf h16 h2000 hs hn
      go_enter Try.func4, Try.ntmps4
      go_wp2_with fail
      refine (alive_any _).mono ?_
      rintro e w1 ⟨rfl, B1⟩
      have HB1 := Lib.hid B1
      clear B1
      go_wp2_with fail
      refine (CA.out _).mono ?_
      rintro e w2 ⟨g, cap, xs, rfl, hO, hX, B2⟩
      have HB2 := Lib.hid (HB1.out.trans (B2.mono HB1.out.size))
      have HO := Lib.hid hO
      have HX := Lib.hid hX
      clear hO hX B2 CA
      go_wp2_with fail
      refine (C1.out _).mono ?_
      rintro e w3 ⟨c, d, rfl, hc, B3⟩
      have HB3 := Lib.hid (HB2.out.trans (B3.mono HB2.out.size))
      have HO3 := Lib.hid (owns_below HO.out B3)
      have HC := Lib.hid hc
      clear hc B3 HB2 HO C1
      go_wp2_with fail
      have yl := HN.out.2.1
      clear b3
      go_loopw [4, 6, 7, 8] (fun h i _ _ wr => ∃ (k a b : Nat), k ≤ n ∧ i = .int .i64 (k : Int) ∧ h = .complex .f64 a b ∧ Hid (k < n → Cx a b (wx (sh f k) 16) (wy (sh f k) 16)) ∧ Hid (wr.ownsRow w1.heap.size 24 1 (.slice (some ⟨g, 0, none⟩) n cap) n xs) ∧ Hid (Below w.heap.size w wr)) (fun _ i _ _ _ => n - (intOf i).toNat)
      case atStart => exact ⟨0, c, d, by omega, rfl, rfl, Lib.hid (fun _ => HC.out), HO3, HB3⟩
      case round =>
        obtain ⟨k, a, b, hk, rfl, rfl, hC, hO, hL⟩ := hrel
        clear HC HO3 HB3
        by_cases hlt : k < n
        · have yk : (k : Int) < (n : Int) := by omega
          have zk : (0 : Int) ≤ (k : Int) := by omega
          have HCk := Lib.hid (hC.out hlt)
          have lw := wx_le (sh f k) 16
          have wk : IntKind.i64.wrap ((k : Int) + 16) = (k : Int) + 16 := IntWalk.i64_in _ (by omega)
          have wk1 : IntKind.i64.wrap ((k : Int) + 1) = (k : Int) + 1 := IntWalk.i64_in _ (by omega)
          obtain ⟨c1, d1, hcell, hcx⟩ := nums_cell hO.out HX.out k hlt
          have S1 : Hid (∀ W : World, Calls Try.prog 7 #[.complex .f64 c1 d1, .int .i64 (wx (sh f k) 16), .int .i64 (wy (sh f k) 16)] W fun e w' => e = .returned (.bool true) ∧ W = w') := fun W => same_any hcx.1 hcx.2 (by omega) (by omega) W
          have S2 : Hid (∀ W : World, Calls Try.prog 7 #[.complex .f64 a b, .int .i64 (wx (sh f k) 16), .int .i64 (wy (sh f k) 16)] W fun e w' => e = .returned (.bool true) ∧ W = w') := fun W => same_any HCk.out.1 HCk.out.2 (by omega) (by omega) W
          have CR : Hid (∀ (W : World), Calls Try.prog 13 #[.complex .f64 a b, .int .u8 ((f k).toNat : Int), .int .u8 ((f (k + 16)).toNat : Int)] W fun e w' => ∃ c d, e = .returned (.complex .f64 c d) ∧ Cx c d (wx (sh f (k + 1)) 16) (wy (sh f (k + 1)) 16) ∧ Below W.heap.size W w') := fun W => by
            have h := roll_any (f k) (f (k + 16)) HCk.out (by omega) (by omega) W
            rw [(sh_roll f k).1, (sh_roll f k).2]
            exact h
          have CPk := CP.out k wr hlt
          have Hcell := Lib.hid hcell
          clear hcx hcell hC lw
          generalize wx (sh f k) 16 = X at *
          generalize wy (sh f k) 16 = Y at *
          go_wp2_with fail
          refine CPk.mono ?_
          rintro e w4 ⟨rfl, B4⟩
          have O4 := Lib.hid (owns_below hO.out B4)
          have L4 := Lib.hid (hL.out.trans (B4.mono hL.out.size))
          have cell4 : w4.cell? ⟨g, k, none⟩ = some (.complex .f64 c1 d1) := by
            have h := Hcell.out
            rw [B4.cell (block_lt_of_cell h)]; exact h
          clear B4 hO hL Hcell CPk
          go_wp2_with fail
          refine (S1.out _).mono ?_
          rintro e w5 ⟨rfl, rfl⟩
          go_wp2_with fail
          refine (S2.out _).mono ?_
          rintro e w5 ⟨rfl, rfl⟩
          clear S1 S2 cell4
          by_cases hne : k + 1 < n
          · have yk2 : (k : Int) + 16 < (s.size : Int) := by have := HN.out.1; omega
            have i1 := IX.out k (by have := HN.out.1; omega)
            have i2 := IX.out (k + 16) (by have := HN.out.1; omega)
            rw [show ((k + 16 : Nat) : Int) = (k : Int) + 16 by omega] at i2
            have yk3 : (k : Int) < (s.size : Int) := by omega
            go_upto_region 18 with fail
            have L0 : Below w.heap.size w w4.drew := L4.out.drew
            have O0 : w4.drew.ownsRow w1.heap.size 24 1 (.slice (some ⟨g, 0, none⟩) n cap) n xs := owns_below O4.out (Below.refl _ _).drew
            go_region_held3 (fun w' => Below w.heap.size w w' ∧ w'.ownsRow w1.heap.size 24 1 (.slice (some ⟨g, 0, none⟩) n cap) n xs) (first | exact ⟨L0, O0⟩ | assumption) (first | (go_at_call 13; refine (CR.out _).mono ?_; rintro e w5 ⟨c5, d5, rfl, hc5, B5⟩; have L5 := And.intro (L0.trans (B5.mono L0.size)) (owns_below O0 B5)))
            all_goals
              have H1 := Lib.hid hc5
              have H2 := Lib.hid L5.2
              have H3 := Lib.hid L5.1
              clear hc5 L5 B5 L0 O0 i1 i2 CR L4 O4 wk
              go_wp2
              go_roundw
              case rel => exact ⟨k + 1, c5, d5, by omega, by go_num, rfl, Lib.hid (fun _ => H1.out), H2, H3⟩
              case measure => simp [intOf]; omega
          · have yk2 : (s.size : Int) ≤ (k : Int) + 16 := by have := HN.out.1; omega
            have hk2 : k + 1 = n := by omega
            clear CR
            go_wp2
            go_roundw
            case rel => exact ⟨k + 1, a, b, by omega, by go_num, rfl, Lib.hid (fun h => absurd h (by omega)), O4, L4⟩
            case measure => simp [intOf]; omega
        · have e : k = n := by omega
          subst e
          go_wp2_with fail
          refine (alive_any _).mono ?_
          rintro e w4 ⟨rfl, B4⟩
          have L4 := Lib.hid (hL.out.trans (B4.mono hL.out.size))
          clear B4
          go_wp2
          go_ret
          exact ⟨rfl, L4.out⟩
end Go.Proofs.Ytailacdlnlanbaa
