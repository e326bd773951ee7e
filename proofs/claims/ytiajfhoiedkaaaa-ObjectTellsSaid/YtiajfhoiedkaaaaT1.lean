import Derived.Test.YtiajfhoiedkaaaaT0
/- The law's function of ObjectTells. -/
namespace Go.Proofs.Ytiajfhoiedkaaaa
open Go.RowKit Classical
set_option maxHeartbeats 8000000 in
set_option maxRecDepth 100000 in
theorem objecttells_any (es : Nat → Ent) (n0 : Nat) (v0 : Value) (t : Nat → UInt8) (q1 : Nat → Nat → UInt8) (n1 : Nat) (u1 : Value) (s1 : List UInt8) (W : World) (hn0 : n0 ≤ 9223372036854775807) (hm0 : ∀ i, i < n0 → (es i).name.length ≤ 9223372036854775807) (hn1 : n1 ≤ 9223372036854775807) (hs1 : s1.length ≤ 9223372036854775807)
    (hR0 : Row W v0 34 (ec es) n0) (hR1 : Row W u1 32 (pc q1) n1) :
    Calls Try.prog 6 #[v0, .agg (arr 34 (cv t u1 s1))] W fun e w' => e = .returned (.bool true) ∧ Below W.heap.size W w' := by
  have HA := Lib.hid (fun W => alive_any W)
  obtain ⟨ad, cap, rfl, -⟩ := row_addr hR0
  obtain ⟨ad1, cap1, rfl, -⟩ := row_addr hR1
  have hz := bs_size s1
  have R0 := Lib.hid hR0
  have R1 := Lib.hid hR1
  have T0 := Lib.hid (Tl.start W (cv t (.slice ad1 n1 cap1) s1))
  clear hR0 hR1
  go_enter Try.func6, Try.ntmps6
  go_upto_region 1 with fail
  change Code.wp _ _ _ _ (W.alloc (.cells (arr 34 (cv t (.slice ad1 n1 cap1) s1)) 36))
  generalize W.alloc (.cells (arr 34 (cv t (.slice ad1 n1 cap1) s1)) 36) = w1 at T0 ⊢
  generalize W.heap.size = z at T0 ⊢
  go_wp2_with fail
  refine (HA.out _).mono ?_
  rintro e w2 ⟨rfl, L2⟩
  have T2 := Lib.hid (T0.out.step L2)
  clear L2 T0
  obtain ⟨c32, c33, -⟩ := cv_parts T2.out.blk
  have HG := great_any es n0 (.slice ad n0 cap) w2 (R0.out.below T2.out.keep) hn0 hm0
  by_cases hg : greatE es n0
  · rw [decide_eq_true hg] at HG
    replace HG := Lib.hid HG
    clear hg hz hn0 hm0 hn1 hs1
    go_wp2_with fail
    refine HG.out.mono ?_
    rintro e w3 ⟨rfl, rfl⟩
    go_wp2_with fail
    refine (HA.out _).mono ?_
    rintro e w4 ⟨rfl, L4⟩
    have T9 := Lib.hid (T2.out.step L4)
    clear L4
    go_wp2
    go_ret
    exact ⟨rfl, T9.out.keep⟩
  · rw [decide_eq_false hg] at HG
    replace HG := Lib.hid HG
    clear hn0 hm0
    by_cases b1 : 20 < n1
    · have t1 : (20 : Int) < (n1 : Int) := by omega
      clear b1 hg hz hn1 hs1
      go_wp2_with fail
      refine HG.out.mono ?_
      rintro e w3 ⟨rfl, rfl⟩
      go_wp2_with fail
      refine (HA.out _).mono ?_
      rintro e w4 ⟨rfl, L4⟩
      have T9 := Lib.hid (T2.out.step L4)
      clear L4
      go_wp2
      go_ret
      exact ⟨rfl, T9.out.keep⟩
    · have t1 : decide ((20 : Int) < (n1 : Int)) = false := by simp; omega
      by_cases b2 : 300 < s1.length
      · have t2 : (300 : Int) < ((bs s1).size : Int) := by omega
        clear b1 b2 hg hz hn1 hs1
        generalize bs s1 = sb at c33 t2
        go_wp2_with fail
        refine HG.out.mono ?_
        rintro e w3 ⟨rfl, rfl⟩
        go_wp2_with fail
        refine (HA.out _).mono ?_
        rintro e w4 ⟨rfl, L4⟩
        have T9 := Lib.hid (T2.out.step L4)
        clear L4
        go_wp2
        go_ret
        exact ⟨rfl, T9.out.keep⟩
      · have t2 : decide ((300 : Int) < ((bs s1).size : Int)) = false := by rw [hz]; simp; omega
        clear hn1 hs1
        have N60 : Hid (n0 ≤ 60) := by show n0 ≤ 60; by_cases c : 60 < n0; exact absurd (Or.inl c) hg; omega
        have NM : Hid (∀ i, i < n0 → (es i).name.length ≤ 281474976710656) := fun i hi => by by_cases c : 100 < (es i).name.length; exact absurd (Or.inr ⟨i, hi, c⟩) hg; omega
        have N20 : Hid (n1 ≤ 20) := by show n1 ≤ 20; omega
        clear hg b1 b2 hz
        go_wp2_with fail
        refine HG.out.mono ?_
        rintro e w3 ⟨rfl, rfl⟩
        go_upto_region 5 with fail
        have HTR := Lib.hid (tree_any es (.slice ad n0 cap) n0 w2 (R0.out.below T2.out.keep) NM.out)
        clear c32 c33 t1 t2 HG
        by_cases ht : treeOk es n0
        · obtain ⟨gs, hp, hgs⟩ := ht
          have HT := Lib.hid (HTR.out.mono fun e w' h => (And.intro (h.1 gs hp hgs) h.2.2 : e = .returned (.tuple #[.agg #[.int .i64 2, .string (bs (tb gs n0))], .int .i64 0]) ∧ Below _ _ w'))
          have HEn := Lib.hid (fun W => (entries_any 2 (tb gs n0) W).mono fun e w' h => And.intro (h.1 ⟨tree_obj hgs, rfl⟩) h.2.2)
          have IT : Hid (IsTree (tb gs n0) gs n0) := ⟨hgs, rfl⟩
          have HPM := Lib.hid hp
          clear hp hgs HTR
          generalize tb gs n0 = bo at HT HEn IT
          go_wp2_with fail
          refine HT.out.mono ?_
          rintro e w3 ⟨rfl, L3⟩
          have T3 := Lib.hid ((T2.out.step L3).alloc (.cells #[.int .i64 2, .string (bs bo)] 24))
          clear L3 T2 HT
          go_wp2_with fail
          refine (HEn.out _).mono ?_
          change ∀ e w', _ → _
          rintro e w4 ⟨⟨v, fs, m, rfl, Rv, It⟩, L4⟩
          obtain ⟨rfl, he⟩ := tree_one IT.out It
          have MEM := Lib.hid (fun j hj => member HPM.out he j hj)
          have EO := Lib.hid It.1
          have T4 := Lib.hid (T3.out.step L4)
          obtain ⟨ad2, cap2, rfl, ha2⟩ := row_addr Rv
          have FS := Lib.hid ha2
          obtain ⟨ad0, cap0, e0, ha0⟩ := row_addr (R0.out.below T4.out.keep)
          cases e0
          have ES := Lib.hid ha0
          have t1 : ((n0 : Int) != (n0 : Int)) = false := by simp
          have B0 : Hid (Below w4.heap.size w4 w4) := Below.refl _ _
          clear he It L4 T3 HEn IT HPM Rv ha2 ha0
          go_wp2
          go_loopw [9] (fun i wr => ∃ j : Nat, j ≤ n0 ∧ i = .int .i64 j ∧ Hid (Below w4.heap.size w4 wr)) (fun i _ => n0 - (intOf i).toNat)
          case atStart => exact ⟨0, Nat.zero_le _, rfl, B0⟩
          case round =>
            obtain ⟨j, hj, rfl, hL⟩ := hrel
            by_cases hlt : j < n0
            · have yj : (j : Int) < (n0 : Int) := by omega
              have zj : (0 : Int) ≤ (j : Int) := by omega
              have HLT := Lib.hid hlt
              clear hlt
              go_wp2
              go_loopw [10, 11] (fun u i wr => ∃ (k : Nat) (b : Bool), k ≤ n0 ∧ i = .int .i64 k ∧ u = .bool b ∧ Hid (b = true ↔ ∃ x, x < k ∧ eqE (fs x) (es j)) ∧ Hid (Below w4.heap.size w4 wr)) (fun _ i _ => n0 - (intOf i).toNat)
              case atStart => exact ⟨0, false, Nat.zero_le _, rfl, rfl, ⟨fun h => (by cases h), fun ⟨x, hx, _⟩ => absurd hx (by omega)⟩, hL⟩
              case round =>
                obtain ⟨k, b, hk, rfl, rfl, hB, hL2⟩ := hrel
                have n60 : n0 ≤ 60 := N60.out
                by_cases hlt2 : k < n0
                · have yk : (k : Int) < (n0 : Int) := by omega
                  have zk : (0 : Int) ≤ (k : Int) := by omega
                  have HLT2 := Lib.hid hlt2
                  clear hlt2
                  cases b
                  · obtain ⟨b1, o1, rfl, hb1, hc1⟩ := ES.out (by have := HLT.out; omega)
                    obtain ⟨b2, o2, rfl, hb2, hc2⟩ := FS.out (by have := HLT.out; omega)
                    have S0 : At wr.drew b2 (o2 + k * 34) 34 (ev (fs k)) ∧ At wr.drew b1 (o1 + j * 34) 34 (ev (es j)) := ⟨((hc2.below hL2.out hb2).ent k HLT2.out), ((hc1.below hL2.out hb1).ent j HLT.out)⟩
                    have q := fun W => eqlEntry (fs k) (es j) W
                    clear hc1 hc2 hb1 hb2
                    go_upto_region 17 with fail
                    refine wp_region_noPanic ?_
                    refine wp_region_held_drew (S := (fun W => At W b2 (o2 + k * 34) 34 (ev (fs k)) ∧ At W b1 (o1 + j * 34) 34 (ev (es j)))) (by kernel_rfl) S0 (fun hHeld => ?_)
                    refine wpAnyH_take (i := 0) (oi := { dst := some 66, op := Op.move (Operand.tmp 10), type := 4, pos := "law.go:140", after := #[], guard := none }) (v := ?_) rfl (by kernel_rfl) (by kernel_rfl) (by kernel_rfl) (fun _ _ _ h => h) (Or.inl ⟨by kernel_rfl, ?_⟩) (by assumption) ?_
                    rotate_left 1
                    · (intro wS hSw; (try dsimp only at hSw); go_simp; try with_reducible rfl)
                    try simp only [Act.put, List.setIfInBounds_toArray, List.set_cons_zero, List.set_cons_succ]
                    refine wpAnyH_take (i := 1) (oi := { dst := some 67, op := Op.move (Operand.tmp 66), type := 4, pos := "law.go:140", after := #[{ on := 0, ground := Ground.data }], guard := none }) (v := ?_) rfl (by kernel_rfl) (by kernel_rfl) (by kernel_rfl) (fun _ _ _ h => h) (Or.inl ⟨by kernel_rfl, ?_⟩) (by assumption) ?_
                    rotate_left 1
                    · (intro wS hSw; (try dsimp only at hSw); go_simp; try with_reducible rfl)
                    try simp only [Act.put, List.setIfInBounds_toArray, List.set_cons_zero, List.set_cons_succ]
                    refine wpAnyH_take (i := 2) (oi := { dst := some 68, op := Op.move (Operand.tmp 7), type := 31, pos := "law.go:140", after := #[{ on := 1, ground := Ground.guard }], guard := some (1, false) }) (v := ?_) rfl (by kernel_rfl) (by kernel_rfl) (by kernel_rfl) (fun _ _ _ h => h) (Or.inl ⟨by kernel_rfl, ?_⟩) (by assumption) ?_
                    rotate_left 1
                    · (intro wS hSw; (try dsimp only at hSw); go_simp; try with_reducible rfl)
                    try simp only [Act.put, List.setIfInBounds_toArray, List.set_cons_zero, List.set_cons_succ]
                    refine wpAnyH_take (i := 3) (oi := { dst := some 69, op := Op.move (Operand.tmp 11), type := 3, pos := "law.go:140", after := #[{ on := 1, ground := Ground.guard }], guard := some (1, false) }) (v := ?_) rfl (by kernel_rfl) (by kernel_rfl) (by kernel_rfl) (fun _ _ _ h => h) (Or.inl ⟨by kernel_rfl, ?_⟩) (by assumption) ?_
                    rotate_left 1
                    · (intro wS hSw; (try dsimp only at hSw); go_simp; try with_reducible rfl)
                    try simp only [Act.put, List.setIfInBounds_toArray, List.set_cons_zero, List.set_cons_succ]
                    refine wpAnyH_take (i := 4) (oi := { dst := some 70, op := Op.indexAddr 31 (Operand.tmp 68) (Operand.tmp 69), type := 0, pos := "law.go:140", after := #[{ on := 2, ground := Ground.data }, { on := 3, ground := Ground.data }, { on := 1, ground := Ground.guard }], guard := some (1, false) }) (v := ?_) rfl (by kernel_rfl) (by kernel_rfl) (by kernel_rfl) (fun _ _ _ h => h) (Or.inl ⟨by kernel_rfl, ?_⟩) (by assumption) ?_
                    rotate_left 1
                    · (intro wS hSw; (try dsimp only at hSw); go_simp; try with_reducible rfl)
                    try simp only [Act.put, List.setIfInBounds_toArray, List.set_cons_zero, List.set_cons_succ]
                    refine wpAnyH_take (i := 5) (oi := { dst := some 71, op := Op.load 51 (Operand.tmp 70), type := 51, pos := "law.go:140", after := #[{ on := 4, ground := Ground.data }, { on := 1, ground := Ground.guard }], guard := some (1, false) }) rfl (by kernel_rfl) (by kernel_rfl) (by kernel_rfl) (fun _ _ _ h => h) (Or.inl ⟨by kernel_rfl, fun wS hSw => ex_load 51 (.tmp 70) rfl b2 (o2 + k * 34) 34 (ev (fs k)) rfl Try.underlying51 rfl szEntry hSw.1⟩) (by assumption) ?_
                    try simp only [Act.put, List.setIfInBounds_toArray, List.set_cons_zero, List.set_cons_succ]
                    refine wpAnyH_take (i := 6) (oi := { dst := some 72, op := Op.move (Operand.tmp 0), type := 31, pos := "law.go:140", after := #[{ on := 1, ground := Ground.guard }], guard := some (1, false) }) (v := ?_) rfl (by kernel_rfl) (by kernel_rfl) (by kernel_rfl) (fun _ _ _ h => h) (Or.inl ⟨by kernel_rfl, ?_⟩) (by assumption) ?_
                    rotate_left 1
                    · (intro wS hSw; (try dsimp only at hSw); go_simp; try with_reducible rfl)
                    try simp only [Act.put, List.setIfInBounds_toArray, List.set_cons_zero, List.set_cons_succ]
                    refine wpAnyH_take (i := 7) (oi := { dst := some 73, op := Op.move (Operand.tmp 9), type := 3, pos := "law.go:140", after := #[{ on := 1, ground := Ground.guard }], guard := some (1, false) }) (v := ?_) rfl (by kernel_rfl) (by kernel_rfl) (by kernel_rfl) (fun _ _ _ h => h) (Or.inl ⟨by kernel_rfl, ?_⟩) (by assumption) ?_
                    rotate_left 1
                    · (intro wS hSw; (try dsimp only at hSw); go_simp; try with_reducible rfl)
                    try simp only [Act.put, List.setIfInBounds_toArray, List.set_cons_zero, List.set_cons_succ]
                    refine wpAnyH_take (i := 8) (oi := { dst := some 74, op := Op.indexAddr 31 (Operand.tmp 72) (Operand.tmp 73), type := 0, pos := "law.go:140", after := #[{ on := 6, ground := Ground.data }, { on := 7, ground := Ground.data }, { on := 1, ground := Ground.guard }], guard := some (1, false) }) (v := ?_) rfl (by kernel_rfl) (by kernel_rfl) (by kernel_rfl) (fun _ _ _ h => h) (Or.inl ⟨by kernel_rfl, ?_⟩) (by assumption) ?_
                    rotate_left 1
                    · (intro wS hSw; (try dsimp only at hSw); go_simp; try with_reducible rfl)
                    try simp only [Act.put, List.setIfInBounds_toArray, List.set_cons_zero, List.set_cons_succ]
                    refine wpAnyH_take (i := 9) (oi := { dst := some 75, op := Op.load 51 (Operand.tmp 74), type := 51, pos := "law.go:140", after := #[{ on := 8, ground := Ground.data }, { on := 1, ground := Ground.guard }], guard := some (1, false) }) rfl (by kernel_rfl) (by kernel_rfl) (by kernel_rfl) (fun _ _ _ h => h) (Or.inl ⟨by kernel_rfl, fun wS hSw => ex_load 51 (.tmp 74) rfl b1 (o1 + j * 34) 34 (ev (es j)) rfl Try.underlying51 rfl szEntry hSw.2⟩) (by assumption) ?_
                    try simp only [Act.put, List.setIfInBounds_toArray, List.set_cons_zero, List.set_cons_succ]
                    refine wpAnyH_take (i := 10) (oi := { dst := some 76, op := Op.binOp BinOp.eql 51 (Operand.tmp 71) (Operand.tmp 75) 51, type := 4, pos := "law.go:140", after := #[{ on := 5, ground := Ground.data }, { on := 9, ground := Ground.data }, { on := 1, ground := Ground.guard }], guard := some (1, false) }) (v := ?_) rfl (by kernel_rfl) (by kernel_rfl) (by kernel_rfl) (fun _ _ _ h => h) (Or.inl ⟨by kernel_rfl, ?_⟩) (by assumption) ?_
                    rotate_left 1
                    · (intro wS hSw; (try dsimp only at hSw); go_simp; try with_reducible rfl)
                    try simp only [Act.put, List.setIfInBounds_toArray, List.set_cons_zero, List.set_cons_succ]
                    refine wpAnyH_take (i := 11) (oi := { dst := some 77, op := Op.pick (Operand.tmp 67) (Operand.const (Value.bool true)) (Operand.tmp 76), type := 4, pos := "law.go:140", after := #[{ on := 1, ground := Ground.data }, { on := 10, ground := Ground.data }], guard := none }) (v := ?_) rfl (by kernel_rfl) (by kernel_rfl) (by kernel_rfl) (fun _ _ _ h => h) (Or.inl ⟨by kernel_rfl, ?_⟩) (by assumption) ?_
                    rotate_left 1
                    · (intro wS hSw; (try dsimp only at hSw); go_simp; try with_reducible rfl)
                    try simp only [Act.put, List.setIfInBounds_toArray, List.set_cons_zero, List.set_cons_succ]
                    refine wpAnyH_take (i := 12) (oi := { dst := some 10, op := Op.assign (Operand.tmp 77), type := 4, pos := "law.go:140", after := #[{ on := 11, ground := Ground.data }, { on := 1, ground := Ground.chain }, { on := 0, ground := Ground.phase }, { on := 1, ground := Ground.phase }, { on := 2, ground := Ground.phase }, { on := 3, ground := Ground.phase }, { on := 4, ground := Ground.phase }, { on := 5, ground := Ground.phase }, { on := 6, ground := Ground.phase }, { on := 7, ground := Ground.phase }, { on := 8, ground := Ground.phase }, { on := 9, ground := Ground.phase }, { on := 10, ground := Ground.phase }, { on := 11, ground := Ground.phase }], guard := none }) (v := ?_) rfl (by kernel_rfl) (by kernel_rfl) (by kernel_rfl) (fun _ _ _ h => h) (Or.inl ⟨by kernel_rfl, ?_⟩) (by assumption) ?_
                    rotate_left 1
                    · (intro wS hSw; (try dsimp only at hSw); go_simp; try with_reducible rfl)
                    try simp only [Act.put, List.setIfInBounds_toArray, List.set_cons_zero, List.set_cons_succ]
                    refine wpAnyH_done (by kernel_rfl) ?_ _
                    refine NoPanic.normal ?_
                    clear hHeld S0 q
                    have L2 : Hid (Below w4.heap.size w4 wr.drew) := hL2.out.drew
                    by_cases hs : eqE (fs k) (es j)
                    · rw [decide_eq_true hs]
                      have B2 : Hid (true = true ↔ ∃ x, x < k + 1 ∧ eqE (fs x) (es j)) := ⟨fun _ => ⟨k, by omega, hs⟩, fun _ => rfl⟩
                      clear hs
                      go_wp2
                      go_roundw
                      case rel => exact ⟨k + 1, true, HLT2.out, by go_num, rfl, B2, L2⟩
                      case measure => simp [intOf]; have := HLT2.out; omega
                    · rw [decide_eq_false hs]
                      have B2 : Hid (false = true ↔ ∃ x, x < k + 1 ∧ eqE (fs x) (es j)) := ⟨fun h => (by cases h), fun ⟨x, hx, h⟩ => by
                        by_cases c : x < k
                        · exact hB.out.2 ⟨x, c, h⟩
                        · rw [show x = k by omega] at h; exact absurd h hs⟩
                      clear hs
                      go_wp2
                      go_roundw
                      case rel => exact ⟨k + 1, false, HLT2.out, by go_num, rfl, B2, L2⟩
                      case measure => simp [intOf]; have := HLT2.out; omega
                  · go_upto_region 17 with fail
                    refine wp_region_noPanic ?_
                    refine wp_region_held_drew (S := (fun _ => True)) (by kernel_rfl) trivial (fun hHeld => ?_)
                    refine wpAnyH_take (i := 0) (oi := { dst := some 66, op := Op.move (Operand.tmp 10), type := 4, pos := "law.go:140", after := #[], guard := none }) (v := ?_) rfl (by kernel_rfl) (by kernel_rfl) (by kernel_rfl) (fun _ _ _ h => h) (Or.inl ⟨by kernel_rfl, ?_⟩) (by assumption) ?_
                    rotate_left 1
                    · (intro wS hSw; (try dsimp only at hSw); go_simp; try with_reducible rfl)
                    try simp only [Act.put, List.setIfInBounds_toArray, List.set_cons_zero, List.set_cons_succ]
                    refine wpAnyH_take (i := 1) (oi := { dst := some 67, op := Op.move (Operand.tmp 66), type := 4, pos := "law.go:140", after := #[{ on := 0, ground := Ground.data }], guard := none }) (v := ?_) rfl (by kernel_rfl) (by kernel_rfl) (by kernel_rfl) (fun _ _ _ h => h) (Or.inl ⟨by kernel_rfl, ?_⟩) (by assumption) ?_
                    rotate_left 1
                    · (intro wS hSw; (try dsimp only at hSw); go_simp; try with_reducible rfl)
                    try simp only [Act.put, List.setIfInBounds_toArray, List.set_cons_zero, List.set_cons_succ]
                    refine wpAnyH_take (i := 2) (oi := { dst := some 68, op := Op.move (Operand.tmp 7), type := 31, pos := "law.go:140", after := #[{ on := 1, ground := Ground.guard }], guard := some (1, false) }) rfl (by kernel_rfl) (by kernel_rfl) (by kernel_rfl) (fun _ _ _ h => h) (Or.inr ⟨by kernel_rfl, rfl⟩) (by assumption) ?_
                    try simp only [Act.put, List.setIfInBounds_toArray, List.set_cons_zero, List.set_cons_succ]
                    refine wpAnyH_take (i := 3) (oi := { dst := some 69, op := Op.move (Operand.tmp 11), type := 3, pos := "law.go:140", after := #[{ on := 1, ground := Ground.guard }], guard := some (1, false) }) rfl (by kernel_rfl) (by kernel_rfl) (by kernel_rfl) (fun _ _ _ h => h) (Or.inr ⟨by kernel_rfl, rfl⟩) (by assumption) ?_
                    try simp only [Act.put, List.setIfInBounds_toArray, List.set_cons_zero, List.set_cons_succ]
                    refine wpAnyH_take (i := 4) (oi := { dst := some 70, op := Op.indexAddr 31 (Operand.tmp 68) (Operand.tmp 69), type := 0, pos := "law.go:140", after := #[{ on := 2, ground := Ground.data }, { on := 3, ground := Ground.data }, { on := 1, ground := Ground.guard }], guard := some (1, false) }) rfl (by kernel_rfl) (by kernel_rfl) (by kernel_rfl) (fun _ _ _ h => h) (Or.inr ⟨by kernel_rfl, rfl⟩) (by assumption) ?_
                    try simp only [Act.put, List.setIfInBounds_toArray, List.set_cons_zero, List.set_cons_succ]
                    refine wpAnyH_take (i := 5) (oi := { dst := some 71, op := Op.load 51 (Operand.tmp 70), type := 51, pos := "law.go:140", after := #[{ on := 4, ground := Ground.data }, { on := 1, ground := Ground.guard }], guard := some (1, false) }) rfl (by kernel_rfl) (by kernel_rfl) (by kernel_rfl) (fun _ _ _ h => h) (Or.inr ⟨by kernel_rfl, rfl⟩) (by assumption) ?_
                    try simp only [Act.put, List.setIfInBounds_toArray, List.set_cons_zero, List.set_cons_succ]
                    refine wpAnyH_take (i := 6) (oi := { dst := some 72, op := Op.move (Operand.tmp 0), type := 31, pos := "law.go:140", after := #[{ on := 1, ground := Ground.guard }], guard := some (1, false) }) rfl (by kernel_rfl) (by kernel_rfl) (by kernel_rfl) (fun _ _ _ h => h) (Or.inr ⟨by kernel_rfl, rfl⟩) (by assumption) ?_
                    try simp only [Act.put, List.setIfInBounds_toArray, List.set_cons_zero, List.set_cons_succ]
                    refine wpAnyH_take (i := 7) (oi := { dst := some 73, op := Op.move (Operand.tmp 9), type := 3, pos := "law.go:140", after := #[{ on := 1, ground := Ground.guard }], guard := some (1, false) }) rfl (by kernel_rfl) (by kernel_rfl) (by kernel_rfl) (fun _ _ _ h => h) (Or.inr ⟨by kernel_rfl, rfl⟩) (by assumption) ?_
                    try simp only [Act.put, List.setIfInBounds_toArray, List.set_cons_zero, List.set_cons_succ]
                    refine wpAnyH_take (i := 8) (oi := { dst := some 74, op := Op.indexAddr 31 (Operand.tmp 72) (Operand.tmp 73), type := 0, pos := "law.go:140", after := #[{ on := 6, ground := Ground.data }, { on := 7, ground := Ground.data }, { on := 1, ground := Ground.guard }], guard := some (1, false) }) rfl (by kernel_rfl) (by kernel_rfl) (by kernel_rfl) (fun _ _ _ h => h) (Or.inr ⟨by kernel_rfl, rfl⟩) (by assumption) ?_
                    try simp only [Act.put, List.setIfInBounds_toArray, List.set_cons_zero, List.set_cons_succ]
                    refine wpAnyH_take (i := 9) (oi := { dst := some 75, op := Op.load 51 (Operand.tmp 74), type := 51, pos := "law.go:140", after := #[{ on := 8, ground := Ground.data }, { on := 1, ground := Ground.guard }], guard := some (1, false) }) rfl (by kernel_rfl) (by kernel_rfl) (by kernel_rfl) (fun _ _ _ h => h) (Or.inr ⟨by kernel_rfl, rfl⟩) (by assumption) ?_
                    try simp only [Act.put, List.setIfInBounds_toArray, List.set_cons_zero, List.set_cons_succ]
                    refine wpAnyH_take (i := 10) (oi := { dst := some 76, op := Op.binOp BinOp.eql 51 (Operand.tmp 71) (Operand.tmp 75) 51, type := 4, pos := "law.go:140", after := #[{ on := 5, ground := Ground.data }, { on := 9, ground := Ground.data }, { on := 1, ground := Ground.guard }], guard := some (1, false) }) rfl (by kernel_rfl) (by kernel_rfl) (by kernel_rfl) (fun _ _ _ h => h) (Or.inr ⟨by kernel_rfl, rfl⟩) (by assumption) ?_
                    try simp only [Act.put, List.setIfInBounds_toArray, List.set_cons_zero, List.set_cons_succ]
                    refine wpAnyH_take (i := 11) (oi := { dst := some 77, op := Op.pick (Operand.tmp 67) (Operand.const (Value.bool true)) (Operand.tmp 76), type := 4, pos := "law.go:140", after := #[{ on := 1, ground := Ground.data }, { on := 10, ground := Ground.data }], guard := none }) (v := ?_) rfl (by kernel_rfl) (by kernel_rfl) (by kernel_rfl) (fun _ _ _ h => h) (Or.inl ⟨by kernel_rfl, ?_⟩) (by assumption) ?_
                    rotate_left 1
                    · (intro wS hSw; (try dsimp only at hSw); go_simp; try with_reducible rfl)
                    try simp only [Act.put, List.setIfInBounds_toArray, List.set_cons_zero, List.set_cons_succ]
                    refine wpAnyH_take (i := 12) (oi := { dst := some 10, op := Op.assign (Operand.tmp 77), type := 4, pos := "law.go:140", after := #[{ on := 11, ground := Ground.data }, { on := 1, ground := Ground.chain }, { on := 0, ground := Ground.phase }, { on := 1, ground := Ground.phase }, { on := 2, ground := Ground.phase }, { on := 3, ground := Ground.phase }, { on := 4, ground := Ground.phase }, { on := 5, ground := Ground.phase }, { on := 6, ground := Ground.phase }, { on := 7, ground := Ground.phase }, { on := 8, ground := Ground.phase }, { on := 9, ground := Ground.phase }, { on := 10, ground := Ground.phase }, { on := 11, ground := Ground.phase }], guard := none }) (v := ?_) rfl (by kernel_rfl) (by kernel_rfl) (by kernel_rfl) (fun _ _ _ h => h) (Or.inl ⟨by kernel_rfl, ?_⟩) (by assumption) ?_
                    rotate_left 1
                    · (intro wS hSw; (try dsimp only at hSw); go_simp; try with_reducible rfl)
                    try simp only [Act.put, List.setIfInBounds_toArray, List.set_cons_zero, List.set_cons_succ]
                    refine wpAnyH_done (by kernel_rfl) ?_ _
                    refine NoPanic.normal ?_
                    have L2 : Hid (Below w4.heap.size w4 wr.drew) := hL2.out.drew
                    have B2 : Hid (true = true ↔ ∃ x, x < k + 1 ∧ eqE (fs x) (es j)) := ⟨fun _ => by obtain ⟨x, hx, h⟩ := hB.out.1 rfl; exact ⟨x, by omega, h⟩, fun _ => rfl⟩
                    clear hHeld
                    go_wp2
                    go_roundw
                    case rel => exact ⟨k + 1, true, HLT2.out, by go_num, rfl, B2, L2⟩
                    case measure => simp [intOf]; have := HLT2.out; omega
                · have ek : k = n0 := by omega
                  subst ek
                  have hb : b = true := hB.out.2 (MEM.out j HLT.out)
                  subst hb
                  have yk : (k : Int) ≤ (k : Int) := by omega
                  have zj2 : (0 : Int) ≤ (j : Int) := by omega
                  have yj2 : (j : Int) < (k : Int) := by have := HLT.out; omega
                  clear hlt2
                  have ways : j = 0 ∨ ∃ m, j = m + 1 := by rcases j with _ | m; exact Or.inl rfl; exact Or.inr ⟨m, rfl⟩
                  rcases ways with rfl | ⟨m, rfl⟩
                  · go_wp2
                    go_quiet (fail)
                    go_wp2
                    go_roundw
                    case rel => exact ⟨1, HLT.out, by go_num, below_drewN hL2.out _⟩
                    case measure => simp [intOf]; have := HLT.out; omega
                  · obtain ⟨b2, o2, rfl, hb2, hc2⟩ := FS.out (by have := HLT.out; omega)
                    have cA := (hc2.below hL2.out hb2).ent m (by have := HLT.out; omega) 0 (by omega)
                    have cB := (hc2.below hL2.out hb2).ent (m + 1) HLT.out 0 (by omega)
                    have cm : wr.cell? ⟨b2, o2 + m * 34, none⟩ = some (.string (bs (fs m).name)) := cA
                    have cm2 : wr.cell? ⟨b2, o2 + (m + 1) * 34, none⟩ = some (.string (bs (fs (m + 1)).name)) := cB
                    have g1 := not_ge EO.out HLT.out
                    generalize bs (fs m).name = sm at cm g1
                    generalize bs (fs (m + 1)).name = sm2 at cm2 g1
                    have zm : (0 : Int) ≤ (m : Int) := by omega
                    have ym : (m : Int) < (k : Int) := by have := HLT.out; omega
                    have wm : IntKind.i64.wrap (m : Int) = (m : Int) := IntWalk.i64_in _ (by have := N60.out; omega)
                    have wm2 : IntKind.i64.wrap ((m : Int) + 1 - 1) = (m : Int) := by rw [show (m : Int) + 1 - 1 = (m : Int) by omega]; exact wm
                    clear cA cB hc2 hb2
                    go_wp2
                    go_quiet (fail)
                    go_wp2
                    go_roundw
                    case rel => exact ⟨m + 1 + 1, HLT.out, by go_num, below_drewN hL2.out _⟩
                    case measure => simp [intOf]; have := HLT.out; omega
            · have ej : j = n0 := by omega
              subst ej
              have yj : (j : Int) ≤ (j : Int) := by omega
              have TT := Lib.hid (T4.out.step hL.out)
              clear hlt T4 FS ES MEM EO B0 hL
              go_upto_region 20 with fail
              have HCM := Lib.hid (commit_any t q1 n1 s1 (.slice ad1 n1 cap1) _ (R1.out.below TT.out.keep) (by have := N20.out; omega))
              have LD := Lib.hid TT.out.blk.at0
              by_cases hc : comOk ⟨t, n1, q1, s1⟩
              · have IC : Hid (IsCom (comB ⟨t, n1, q1, s1⟩) ⟨t, n1, q1, s1⟩) := ⟨hc, rfl⟩
                have HC := Lib.hid (HCM.out.mono fun e w' h => (And.intro (h.1 hc) h.2.2 : e = .returned (.tuple #[.agg #[.int .i64 3, .string (bs (comB ⟨t, n1, q1, s1⟩))], .int .i64 0]) ∧ Below _ _ w'))
                have HCs := Lib.hid (fun W => (commits_any 3 (comB ⟨t, n1, q1, s1⟩) W).mono fun e w' h => And.intro (h.1 ⟨com_obj hc, rfl⟩) h.2.2)
                clear hc HCM
                generalize comB ⟨t, n1, q1, s1⟩ = bo at IC HC HCs
                go_wp2_with (refine wpList_val rfl _ _ (ex_load 36 (.tmp 3) rfl z 0 34 (cv t (.slice ad1 n1 cap1) s1) rfl Try.underlying36 rfl szCommit LD.out) ?_)
                refine HC.out.mono ?_
                rintro e w6 ⟨rfl, L6⟩
                have T6 := Lib.hid ((TT.out.step L6).alloc (.cells #[.int .i64 3, .string (bs bo)] 24))
                clear L6 TT HC LD
                go_wp2_with fail
                refine (HCs.out _).mono ?_
                change ∀ e w', _ → _
                rintro e w7 ⟨⟨d, pv, rfl, Rp, Ip⟩, L7⟩
                have A8 := (Below.refl w7.heap.size w7).alloc (Nat.le_refl _) (.cells (arr 34 (cv d.tree pv d.text)) 36)
                have T8 := Lib.hid ((T6.out.step L7).step A8)
                have R8 := Lib.hid (Rp.below A8)
                have BD : Hid (Blk (w7.alloc (.cells (arr 34 (cv d.tree pv d.text)) 36)) w7.heap.size 36 34 (cv d.tree pv d.text)) := Blk.newAt _ (heap_alloc_new _ _) rfl
                have HP := row_one Rp
                have SC := Lib.hid (com_one IC.out Ip)
                have D4 : Hid (d.n ≤ 4) := Ip.1.1
                clear L7 T6 A8 Rp Ip IC HCs
                go_upto_region 24 with (refine wpList_store_blk rfl 36 (.tmp 14) (.tmp 109) rfl w7.heap.size 34 (cv d.tree pv d.text) (cv (fun _ => 0) (.slice none 0 0) []) rfl rfl 36 (Blk.newAt _ (heap_alloc_new _ _) rfl) szCommit (fun i _ => cv_one _ _ HP _ i) ?_)
                rw [World.setRow_alloc_new]
                generalize w7.alloc (.cells (arr 34 (cv d.tree pv d.text)) 36) = w8 at T8 R8 BD ⊢
                generalize w7.heap.size = zd at BD ⊢
                refine wp_region_lit ?_
                refine wpList_callG (by kernel_rfl) fun K hK => ?_
                go_simp
                refine (HA.out _).mono ?_
                rintro e w9 ⟨rfl, L9⟩
                refine hK _ _ ?_
                clear hK K
                try simp only [Act.put, List.setIfInBounds_toArray, List.set_cons_zero, List.set_cons_succ]
                have T9 := Lib.hid (T8.out.step L9)
                have BD9 := Lib.hid (BD.out.below L9 BD.out.lt)
                have HS := Lib.hid (samecom_any ⟨t, n1, q1, s1⟩ d (.slice ad1 n1 cap1) pv w9 (R1.out.below T9.out.keep) (R8.out.below L9) (by show n1 ≤ _; have := N20.out; omega) (by have := D4.out; omega))
                rw [decide_eq_true SC.out] at HS
                clear L9 T8 BD R8
                refine wpList_valS (v := ?_) (by kernel_rfl) ?_ ?_
                rotate_left 1
                · (go_simp; try with_reducible rfl)
                try simp only [Act.put, List.setIfInBounds_toArray, List.set_cons_zero, List.set_cons_succ]
                refine wpList_valS (v := ?_) (by kernel_rfl) ?_ ?_
                rotate_left 1
                · (go_simp; try with_reducible rfl)
                try simp only [Act.put, List.setIfInBounds_toArray, List.set_cons_zero, List.set_cons_succ]
                refine wpList_valS (v := ?_) (by kernel_rfl) ?_ ?_
                rotate_left 1
                · (go_simp; try with_reducible rfl)
                try simp only [Act.put, List.setIfInBounds_toArray, List.set_cons_zero, List.set_cons_succ]
                refine wpList_valS (v := ?_) (by kernel_rfl) ?_ ?_
                rotate_left 1
                · (go_simp; try with_reducible rfl)
                try simp only [Act.put, List.setIfInBounds_toArray, List.set_cons_zero, List.set_cons_succ]
                refine wpList_valS (v := ?_) (by kernel_rfl) ?_ ?_
                rotate_left 1
                · (go_simp; try with_reducible rfl)
                try simp only [Act.put, List.setIfInBounds_toArray, List.set_cons_zero, List.set_cons_succ]
                refine wpList_valG (by kernel_rfl) (ex_load 36 (.tmp 3) rfl z 0 34 (cv t (.slice ad1 n1 cap1) s1) rfl Try.underlying36 rfl szCommit T9.out.blk.at0) ?_
                try simp only [Act.put, List.setIfInBounds_toArray, List.set_cons_zero, List.set_cons_succ]
                refine wpList_valG (by kernel_rfl) (ex_load 36 (.tmp 14) rfl zd 0 34 (cv d.tree pv d.text) rfl Try.underlying36 rfl szCommit BD9.out.at0) ?_
                try simp only [Act.put, List.setIfInBounds_toArray, List.set_cons_zero, List.set_cons_succ]
                refine wpList_callG (by kernel_rfl) fun K hK => ?_
                go_simp
                refine (HS.out).mono ?_
                rintro e w10 ⟨rfl, L10⟩
                refine hK _ _ ?_
                clear hK K
                try simp only [Act.put, List.setIfInBounds_toArray, List.set_cons_zero, List.set_cons_succ]
                refine wpList_valS (v := ?_) (by kernel_rfl) ?_ ?_
                rotate_left 1
                · (go_simp; try with_reducible rfl)
                try simp only [Act.put, List.setIfInBounds_toArray, List.set_cons_zero, List.set_cons_succ]
                refine wpList_valS (v := ?_) (by kernel_rfl) ?_ ?_
                rotate_left 1
                · (go_simp; try with_reducible rfl)
                try simp only [Act.put, List.setIfInBounds_toArray, List.set_cons_zero, List.set_cons_succ]
                refine wpList_nil ?_
                have T10 := Lib.hid (T9.out.step L10)
                clear L10 T9
                go_wp2
                go_ret
                exact ⟨rfl, T10.out.keep⟩
              · have HC := Lib.hid (HCM.out.mono fun e w' h => (And.intro (h.2.1 hc) h.2.2 : e = .returned (.tuple #[.agg #[.int .i64 0, .string ⟨#[]⟩], .int .i64 1]) ∧ Below _ _ w'))
                clear hc HCM
                go_wp2_with (refine wpList_val rfl _ _ (ex_load 36 (.tmp 3) rfl z 0 34 (cv t (.slice ad1 n1 cap1) s1) rfl Try.underlying36 rfl szCommit LD.out) ?_)
                refine HC.out.mono ?_
                rintro e w6 ⟨rfl, L6⟩
                have T6 := Lib.hid ((TT.out.step L6).alloc (.cells #[.int .i64 0, .string ⟨#[]⟩] 24))
                clear L6 TT HC LD
                go_wp2_with fail
                refine (HA.out _).mono ?_
                rintro e w4 ⟨rfl, L4⟩
                have T9 := Lib.hid (T6.out.step L4)
                clear L4
                go_wp2
                go_ret
                exact ⟨rfl, T9.out.keep⟩
        · have HT := Lib.hid (HTR.out.mono fun e w' h => (And.intro (h.2.1 ht) h.2.2 : e = .returned (.tuple #[.agg #[.int .i64 0, .string ⟨#[]⟩], .int .i64 1]) ∧ Below _ _ w'))
          clear ht HTR
          go_wp2_with fail
          refine HT.out.mono ?_
          rintro e w3 ⟨rfl, L3⟩
          have T3 := Lib.hid ((T2.out.step L3).alloc (.cells #[.int .i64 0, .string ⟨#[]⟩] 24))
          clear L3 T2 HT
          go_upto_region 20 with fail
          change Code.wp _ _ _ _ (w3.alloc (.cells #[.int .i64 0, .string ⟨#[]⟩] 24))
          generalize w3.alloc (.cells #[.int .i64 0, .string ⟨#[]⟩] 24) = w5 at T3 ⊢
          have TT := T3
          clear T3
          have HCM := Lib.hid (commit_any t q1 n1 s1 (.slice ad1 n1 cap1) _ (R1.out.below TT.out.keep) (by have := N20.out; omega))
          have LD := Lib.hid TT.out.blk.at0
          by_cases hc : comOk ⟨t, n1, q1, s1⟩
          · have IC : Hid (IsCom (comB ⟨t, n1, q1, s1⟩) ⟨t, n1, q1, s1⟩) := ⟨hc, rfl⟩
            have HC := Lib.hid (HCM.out.mono fun e w' h => (And.intro (h.1 hc) h.2.2 : e = .returned (.tuple #[.agg #[.int .i64 3, .string (bs (comB ⟨t, n1, q1, s1⟩))], .int .i64 0]) ∧ Below _ _ w'))
            have HCs := Lib.hid (fun W => (commits_any 3 (comB ⟨t, n1, q1, s1⟩) W).mono fun e w' h => And.intro (h.1 ⟨com_obj hc, rfl⟩) h.2.2)
            clear hc HCM
            generalize comB ⟨t, n1, q1, s1⟩ = bo at IC HC HCs
            go_wp2_with (refine wpList_val rfl _ _ (ex_load 36 (.tmp 3) rfl z 0 34 (cv t (.slice ad1 n1 cap1) s1) rfl Try.underlying36 rfl szCommit LD.out) ?_)
            refine HC.out.mono ?_
            rintro e w6 ⟨rfl, L6⟩
            have T6 := Lib.hid ((TT.out.step L6).alloc (.cells #[.int .i64 3, .string (bs bo)] 24))
            clear L6 TT HC LD
            go_wp2_with fail
            refine (HCs.out _).mono ?_
            change ∀ e w', _ → _
            rintro e w7 ⟨⟨d, pv, rfl, Rp, Ip⟩, L7⟩
            have A8 := (Below.refl w7.heap.size w7).alloc (Nat.le_refl _) (.cells (arr 34 (cv d.tree pv d.text)) 36)
            have T8 := Lib.hid ((T6.out.step L7).step A8)
            have R8 := Lib.hid (Rp.below A8)
            have BD : Hid (Blk (w7.alloc (.cells (arr 34 (cv d.tree pv d.text)) 36)) w7.heap.size 36 34 (cv d.tree pv d.text)) := Blk.newAt _ (heap_alloc_new _ _) rfl
            have HP := row_one Rp
            have SC := Lib.hid (com_one IC.out Ip)
            have D4 : Hid (d.n ≤ 4) := Ip.1.1
            clear L7 T6 A8 Rp Ip IC HCs
            go_upto_region 24 with (refine wpList_store_blk rfl 36 (.tmp 14) (.tmp 109) rfl w7.heap.size 34 (cv d.tree pv d.text) (cv (fun _ => 0) (.slice none 0 0) []) rfl rfl 36 (Blk.newAt _ (heap_alloc_new _ _) rfl) szCommit (fun i _ => cv_one _ _ HP _ i) ?_)
            rw [World.setRow_alloc_new]
            generalize w7.alloc (.cells (arr 34 (cv d.tree pv d.text)) 36) = w8 at T8 R8 BD ⊢
            generalize w7.heap.size = zd at BD ⊢
            refine wp_region_lit ?_
            refine wpList_callG (by kernel_rfl) fun K hK => ?_
            go_simp
            refine (HA.out _).mono ?_
            rintro e w9 ⟨rfl, L9⟩
            refine hK _ _ ?_
            clear hK K
            try simp only [Act.put, List.setIfInBounds_toArray, List.set_cons_zero, List.set_cons_succ]
            have T9 := Lib.hid (T8.out.step L9)
            have BD9 := Lib.hid (BD.out.below L9 BD.out.lt)
            have HS := Lib.hid (samecom_any ⟨t, n1, q1, s1⟩ d (.slice ad1 n1 cap1) pv w9 (R1.out.below T9.out.keep) (R8.out.below L9) (by show n1 ≤ _; have := N20.out; omega) (by have := D4.out; omega))
            rw [decide_eq_true SC.out] at HS
            clear L9 T8 BD R8
            refine wpList_valS (v := ?_) (by kernel_rfl) ?_ ?_
            rotate_left 1
            · (go_simp; try with_reducible rfl)
            try simp only [Act.put, List.setIfInBounds_toArray, List.set_cons_zero, List.set_cons_succ]
            refine wpList_valS (v := ?_) (by kernel_rfl) ?_ ?_
            rotate_left 1
            · (go_simp; try with_reducible rfl)
            try simp only [Act.put, List.setIfInBounds_toArray, List.set_cons_zero, List.set_cons_succ]
            refine wpList_valS (v := ?_) (by kernel_rfl) ?_ ?_
            rotate_left 1
            · (go_simp; try with_reducible rfl)
            try simp only [Act.put, List.setIfInBounds_toArray, List.set_cons_zero, List.set_cons_succ]
            refine wpList_valS (v := ?_) (by kernel_rfl) ?_ ?_
            rotate_left 1
            · (go_simp; try with_reducible rfl)
            try simp only [Act.put, List.setIfInBounds_toArray, List.set_cons_zero, List.set_cons_succ]
            refine wpList_valS (v := ?_) (by kernel_rfl) ?_ ?_
            rotate_left 1
            · (go_simp; try with_reducible rfl)
            try simp only [Act.put, List.setIfInBounds_toArray, List.set_cons_zero, List.set_cons_succ]
            refine wpList_valG (by kernel_rfl) (ex_load 36 (.tmp 3) rfl z 0 34 (cv t (.slice ad1 n1 cap1) s1) rfl Try.underlying36 rfl szCommit T9.out.blk.at0) ?_
            try simp only [Act.put, List.setIfInBounds_toArray, List.set_cons_zero, List.set_cons_succ]
            refine wpList_valG (by kernel_rfl) (ex_load 36 (.tmp 14) rfl zd 0 34 (cv d.tree pv d.text) rfl Try.underlying36 rfl szCommit BD9.out.at0) ?_
            try simp only [Act.put, List.setIfInBounds_toArray, List.set_cons_zero, List.set_cons_succ]
            refine wpList_callG (by kernel_rfl) fun K hK => ?_
            go_simp
            refine (HS.out).mono ?_
            rintro e w10 ⟨rfl, L10⟩
            refine hK _ _ ?_
            clear hK K
            try simp only [Act.put, List.setIfInBounds_toArray, List.set_cons_zero, List.set_cons_succ]
            refine wpList_valS (v := ?_) (by kernel_rfl) ?_ ?_
            rotate_left 1
            · (go_simp; try with_reducible rfl)
            try simp only [Act.put, List.setIfInBounds_toArray, List.set_cons_zero, List.set_cons_succ]
            refine wpList_valS (v := ?_) (by kernel_rfl) ?_ ?_
            rotate_left 1
            · (go_simp; try with_reducible rfl)
            try simp only [Act.put, List.setIfInBounds_toArray, List.set_cons_zero, List.set_cons_succ]
            refine wpList_nil ?_
            have T10 := Lib.hid (T9.out.step L10)
            clear L10 T9
            go_wp2
            go_ret
            exact ⟨rfl, T10.out.keep⟩
          · have HC := Lib.hid (HCM.out.mono fun e w' h => (And.intro (h.2.1 hc) h.2.2 : e = .returned (.tuple #[.agg #[.int .i64 0, .string ⟨#[]⟩], .int .i64 1]) ∧ Below _ _ w'))
            clear hc HCM
            go_wp2_with (refine wpList_val rfl _ _ (ex_load 36 (.tmp 3) rfl z 0 34 (cv t (.slice ad1 n1 cap1) s1) rfl Try.underlying36 rfl szCommit LD.out) ?_)
            refine HC.out.mono ?_
            rintro e w6 ⟨rfl, L6⟩
            have T6 := Lib.hid ((TT.out.step L6).alloc (.cells #[.int .i64 0, .string ⟨#[]⟩] 24))
            clear L6 TT HC LD
            go_wp2_with fail
            refine (HA.out _).mono ?_
            rintro e w4 ⟨rfl, L4⟩
            have T9 := Lib.hid (T6.out.step L4)
            clear L4
            go_wp2
            go_ret
            exact ⟨rfl, T9.out.keep⟩
end Go.Proofs.Ytiajfhoiedkaaaa
