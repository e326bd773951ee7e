import Derived.Test.YtlbclfponongbaaGreatDoorO23m
/- The same lists of ids, of entries? Is a list great? -/
namespace Go.Proofs.YtlbclfponongbaaGreatDoor
open Go.RowKit Classical
set_option maxHeartbeats 2000000 in
set_option maxRecDepth 100000 in
theorem sameids_any_aux (xs ys : Nat → (Nat → UInt8)) (n k : Nat) (u v : Value) (w : World) (r : Bool) (hT : Hid ((n = k ∧ ∀ i, i < n → same32 (xs i) (ys i)) → r = true)) (hF : Hid (¬ (n = k ∧ ∀ i, i < n → same32 (xs i) (ys i)) → r = false)) (hX : Row w u 32 (pc xs) n) (hY : Row w v 32 (pc ys) k) (hn : n ≤ 9223372036854775807) (hk : k ≤ 9223372036854775807) :
    Calls Tryz.prog 27 #[u, v] w fun e w' => e = .returned (.bool r) ∧ Below w.heap.size w w' := by
  obtain ⟨ad, cap, rfl, ha⟩ := row_addr hX
  obtain ⟨ad2, cap2, rfl, ha2⟩ := row_addr hY
  have HA := Lib.hid ha
  have HA2 := Lib.hid ha2
  clear ha ha2 hX hY
  by_cases hnk : n = k
  · subst hnk
    have t1 : ((n : Int) != (n : Int)) = false := by simp
    go_enter Tryz.func27, Tryz.ntmps27
    go_wp2
    go_loopw [5] (fun i wr => ∃ j : Nat, j ≤ n ∧ i = .int .i64 j ∧ Hid (∀ x, x < j → same32 (xs x) (ys x)) ∧ Hid (Below w.heap.size w wr)) (fun i _ => n - (intOf i).toNat)
    case atStart => exact ⟨0, Nat.zero_le _, rfl, (fun x hx => absurd hx (by omega)), Below.refl _ _⟩
    case round =>
      obtain ⟨j, hj, rfl, hS, hL⟩ := hrel
      by_cases hlt : j < n
      · obtain ⟨b, o, rfl, hb, hc0⟩ := HA.out (by omega)
        obtain ⟨b2, o2, rfl, hb2, hc2⟩ := HA2.out (by omega)
        have S0 : At wr.drew b (o + j * 32) 32 (bv (xs j)) ∧ At wr.drew b2 (o2 + j * 32) 32 (bv (ys j)) := ⟨((hc0.below hL.out hb).idk j hlt), ((hc2.below hL.out hb2).idk j hlt)⟩
        have zj : (0 : Int) ≤ (j : Int) := by omega
        have yj : (j : Int) < (n : Int) := by omega
        have HLT := Lib.hid hlt
        have q := fun W => neqId (xs j) (ys j) W
        clear hc0 hc2 hb hb2 hlt
        go_upto_region 6 with fail
        refine wp_region_noPanic ?_
        refine wp_region_held_drew (S := (fun W => At W b (o + j * 32) 32 (bv (xs j)) ∧ At W b2 (o2 + j * 32) 32 (bv (ys j)))) (by kernel_rfl) S0 (fun hHeld => ?_)
        refine wpAnyH_take (i := 0) (oi := { dst := some 17, op := Op.move (Operand.tmp 0), type := 35, pos := "ref.go:212", after := #[], guard := none }) (v := ?_) rfl (by kernel_rfl) (by kernel_rfl) (by kernel_rfl) (fun _ _ _ h => h) (Or.inl ⟨by kernel_rfl, ?_⟩) (by assumption) ?_
        rotate_left 1
        · (intro wS hSw; (try dsimp only at hSw); go_simp; try with_reducible rfl)
        try simp only [Act.put, List.setIfInBounds_toArray, List.set_cons_zero, List.set_cons_succ]
        refine wpAnyH_take (i := 1) (oi := { dst := some 18, op := Op.move (Operand.tmp 5), type := 3, pos := "ref.go:212", after := #[], guard := none }) (v := ?_) rfl (by kernel_rfl) (by kernel_rfl) (by kernel_rfl) (fun _ _ _ h => h) (Or.inl ⟨by kernel_rfl, ?_⟩) (by assumption) ?_
        rotate_left 1
        · (intro wS hSw; (try dsimp only at hSw); go_simp; try with_reducible rfl)
        try simp only [Act.put, List.setIfInBounds_toArray, List.set_cons_zero, List.set_cons_succ]
        refine wpAnyH_take (i := 2) (oi := { dst := some 19, op := Op.indexAddr 35 (Operand.tmp 17) (Operand.tmp 18), type := 0, pos := "ref.go:212", after := #[{ on := 0, ground := Ground.data }, { on := 1, ground := Ground.data }], guard := none }) (v := ?_) rfl (by kernel_rfl) (by kernel_rfl) (by kernel_rfl) (fun _ _ _ h => h) (Or.inl ⟨by kernel_rfl, ?_⟩) (by assumption) ?_
        rotate_left 1
        · (intro wS hSw; (try dsimp only at hSw); go_simp; try with_reducible rfl)
        try simp only [Act.put, List.setIfInBounds_toArray, List.set_cons_zero, List.set_cons_succ]
        refine wpAnyH_take (i := 3) (oi := { dst := some 20, op := Op.load 29 (Operand.tmp 19), type := 29, pos := "ref.go:212", after := #[{ on := 2, ground := Ground.data }], guard := none }) rfl (by kernel_rfl) (by kernel_rfl) (by kernel_rfl) (fun _ _ _ h => h) (Or.inl ⟨by kernel_rfl, fun wS hSw => ex_load 29 (.tmp 19) rfl b (o + j * 32) 32 (bv (xs j)) rfl Tryz.underlying29 rfl sz30 hSw.1⟩) (by assumption) ?_
        try simp only [Act.put, List.setIfInBounds_toArray, List.set_cons_zero, List.set_cons_succ]
        refine wpAnyH_take (i := 4) (oi := { dst := some 21, op := Op.move (Operand.tmp 1), type := 35, pos := "ref.go:212", after := #[], guard := none }) (v := ?_) rfl (by kernel_rfl) (by kernel_rfl) (by kernel_rfl) (fun _ _ _ h => h) (Or.inl ⟨by kernel_rfl, ?_⟩) (by assumption) ?_
        rotate_left 1
        · (intro wS hSw; (try dsimp only at hSw); go_simp; try with_reducible rfl)
        try simp only [Act.put, List.setIfInBounds_toArray, List.set_cons_zero, List.set_cons_succ]
        refine wpAnyH_take (i := 5) (oi := { dst := some 22, op := Op.move (Operand.tmp 5), type := 3, pos := "ref.go:212", after := #[], guard := none }) (v := ?_) rfl (by kernel_rfl) (by kernel_rfl) (by kernel_rfl) (fun _ _ _ h => h) (Or.inl ⟨by kernel_rfl, ?_⟩) (by assumption) ?_
        rotate_left 1
        · (intro wS hSw; (try dsimp only at hSw); go_simp; try with_reducible rfl)
        try simp only [Act.put, List.setIfInBounds_toArray, List.set_cons_zero, List.set_cons_succ]
        refine wpAnyH_take (i := 6) (oi := { dst := some 23, op := Op.indexAddr 35 (Operand.tmp 21) (Operand.tmp 22), type := 0, pos := "ref.go:212", after := #[{ on := 4, ground := Ground.data }, { on := 5, ground := Ground.data }], guard := none }) (v := ?_) rfl (by kernel_rfl) (by kernel_rfl) (by kernel_rfl) (fun _ _ _ h => h) (Or.inl ⟨by kernel_rfl, ?_⟩) (by assumption) ?_
        rotate_left 1
        · (intro wS hSw; (try dsimp only at hSw); go_simp; try with_reducible rfl)
        try simp only [Act.put, List.setIfInBounds_toArray, List.set_cons_zero, List.set_cons_succ]
        refine wpAnyH_take (i := 7) (oi := { dst := some 24, op := Op.load 29 (Operand.tmp 23), type := 29, pos := "ref.go:212", after := #[{ on := 6, ground := Ground.data }], guard := none }) rfl (by kernel_rfl) (by kernel_rfl) (by kernel_rfl) (fun _ _ _ h => h) (Or.inl ⟨by kernel_rfl, fun wS hSw => ex_load 29 (.tmp 23) rfl b2 (o2 + j * 32) 32 (bv (ys j)) rfl Tryz.underlying29 rfl sz30 hSw.2⟩) (by assumption) ?_
        try simp only [Act.put, List.setIfInBounds_toArray, List.set_cons_zero, List.set_cons_succ]
        refine wpAnyH_take (i := 8) (oi := { dst := some 25, op := Op.binOp BinOp.neq 29 (Operand.tmp 20) (Operand.tmp 24) 29, type := 4, pos := "ref.go:212", after := #[{ on := 3, ground := Ground.data }, { on := 7, ground := Ground.data }], guard := none }) (v := ?_) rfl (by kernel_rfl) (by kernel_rfl) (by kernel_rfl) (fun _ _ _ h => h) (Or.inl ⟨by kernel_rfl, ?_⟩) (by assumption) ?_
        rotate_left 1
        · (intro wS hSw; (try dsimp only at hSw); go_simp; try with_reducible rfl)
        try simp only [Act.put, List.setIfInBounds_toArray, List.set_cons_zero, List.set_cons_succ]
        refine wpAnyH_done (by kernel_rfl) ?_ _
        refine NoPanic.normal ?_
        clear hHeld S0 q
        by_cases hs : same32 (xs j) (ys j)
        · rw [decide_eq_true hs]
          have S2 : Hid (∀ x, x < j + 1 → same32 (xs x) (ys x)) := fun x hx => by
            by_cases c : x < j
            · exact hS.out x c
            · rw [show x = j by omega]; exact hs
          have L2 : Hid (Below w.heap.size w wr.drew) := hL.out.drew
          clear hs
          simp only [Bool.not_true]
          go_wp2
          go_roundw
          case rel => exact ⟨j + 1, HLT.out, by go_num, S2, L2⟩
          case measure => simp [intOf]; have := HLT.out; omega
        · rw [decide_eq_false hs]
          have E := Lib.hid (hF.out fun h => hs (h.2 j HLT.out))
          clear hs
          simp only [Bool.not_false]
          go_wp2
          go_ret
          rw [E.out]
          exact ⟨rfl, hL.out.drew⟩
      · have ej : j = n := by omega
        subst ej
        have E := Lib.hid (hT.out ⟨by first | trivial | rfl, hS.out⟩)
        have yj : (j : Int) ≤ (j : Int) := by omega
        clear hlt
        go_wp2
        go_ret
        rw [E.out]
        exact ⟨rfl, hL.out⟩
  · have t1 : ((n : Int) != (k : Int)) = true := by simp; omega
    have E := Lib.hid (hF.out fun h => hnk h.1)
    clear hnk
    go_enter Tryz.func27, Tryz.ntmps27
    go_wp2
    go_ret
    rw [E.out]
    exact ⟨rfl, Below.refl _ _⟩
theorem sameids_any (xs ys : Nat → (Nat → UInt8)) (n k : Nat) (u v : Value) (w : World) (hX : Row w u 32 (pc xs) n) (hY : Row w v 32 (pc ys) k) (hn : n ≤ 9223372036854775807) (hk : k ≤ 9223372036854775807) :
    Calls Tryz.prog 27 #[u, v] w fun e w' => e = .returned (.bool (decide (n = k ∧ ∀ i, i < n → same32 (xs i) (ys i)))) ∧ Below w.heap.size w w' :=
  sameids_any_aux xs ys n k u v w _ (fun h => decide_eq_true h) (fun h => decide_eq_false h) hX hY hn hk
set_option maxHeartbeats 2000000 in
set_option maxRecDepth 100000 in
theorem sameents_any_aux (xs ys : Nat → Ent) (n k : Nat) (u v : Value) (w : World) (r : Bool) (hT : Hid ((n = k ∧ ∀ i, i < n → eqE (xs i) (ys i)) → r = true)) (hF : Hid (¬ (n = k ∧ ∀ i, i < n → eqE (xs i) (ys i)) → r = false)) (hX : Row w u 34 (ec xs) n) (hY : Row w v 34 (ec ys) k) (hn : n ≤ 9223372036854775807) (hk : k ≤ 9223372036854775807) :
    Calls Tryz.prog 18 #[u, v] w fun e w' => e = .returned (.bool r) ∧ Below w.heap.size w w' := by
  obtain ⟨ad, cap, rfl, ha⟩ := row_addr hX
  obtain ⟨ad2, cap2, rfl, ha2⟩ := row_addr hY
  have HA := Lib.hid ha
  have HA2 := Lib.hid ha2
  clear ha ha2 hX hY
  by_cases hnk : n = k
  · subst hnk
    have t1 : ((n : Int) != (n : Int)) = false := by simp
    go_enter Tryz.func18, Tryz.ntmps18
    go_wp2
    go_loopw [5] (fun i wr => ∃ j : Nat, j ≤ n ∧ i = .int .i64 j ∧ Hid (∀ x, x < j → eqE (xs x) (ys x)) ∧ Hid (Below w.heap.size w wr)) (fun i _ => n - (intOf i).toNat)
    case atStart => exact ⟨0, Nat.zero_le _, rfl, (fun x hx => absurd hx (by omega)), Below.refl _ _⟩
    case round =>
      obtain ⟨j, hj, rfl, hS, hL⟩ := hrel
      by_cases hlt : j < n
      · obtain ⟨b, o, rfl, hb, hc0⟩ := HA.out (by omega)
        obtain ⟨b2, o2, rfl, hb2, hc2⟩ := HA2.out (by omega)
        have S0 : At wr.drew b (o + j * 34) 34 (ev (xs j)) ∧ At wr.drew b2 (o2 + j * 34) 34 (ev (ys j)) := ⟨((hc0.below hL.out hb).ent j hlt), ((hc2.below hL.out hb2).ent j hlt)⟩
        have zj : (0 : Int) ≤ (j : Int) := by omega
        have yj : (j : Int) < (n : Int) := by omega
        have HLT := Lib.hid hlt
        have q := fun W => neqEntry (xs j) (ys j) W
        clear hc0 hc2 hb hb2 hlt
        go_upto_region 6 with fail
        refine wp_region_noPanic ?_
        refine wp_region_held_drew (S := (fun W => At W b (o + j * 34) 34 (ev (xs j)) ∧ At W b2 (o2 + j * 34) 34 (ev (ys j)))) (by kernel_rfl) S0 (fun hHeld => ?_)
        refine wpAnyH_take (i := 0) (oi := { dst := some 17, op := Op.move (Operand.tmp 0), type := 32, pos := "ref.go:199", after := #[], guard := none }) (v := ?_) rfl (by kernel_rfl) (by kernel_rfl) (by kernel_rfl) (fun _ _ _ h => h) (Or.inl ⟨by kernel_rfl, ?_⟩) (by assumption) ?_
        rotate_left 1
        · (intro wS hSw; (try dsimp only at hSw); go_simp; try with_reducible rfl)
        try simp only [Act.put, List.setIfInBounds_toArray, List.set_cons_zero, List.set_cons_succ]
        refine wpAnyH_take (i := 1) (oi := { dst := some 18, op := Op.move (Operand.tmp 5), type := 3, pos := "ref.go:199", after := #[], guard := none }) (v := ?_) rfl (by kernel_rfl) (by kernel_rfl) (by kernel_rfl) (fun _ _ _ h => h) (Or.inl ⟨by kernel_rfl, ?_⟩) (by assumption) ?_
        rotate_left 1
        · (intro wS hSw; (try dsimp only at hSw); go_simp; try with_reducible rfl)
        try simp only [Act.put, List.setIfInBounds_toArray, List.set_cons_zero, List.set_cons_succ]
        refine wpAnyH_take (i := 2) (oi := { dst := some 19, op := Op.indexAddr 32 (Operand.tmp 17) (Operand.tmp 18), type := 0, pos := "ref.go:199", after := #[{ on := 0, ground := Ground.data }, { on := 1, ground := Ground.data }], guard := none }) (v := ?_) rfl (by kernel_rfl) (by kernel_rfl) (by kernel_rfl) (fun _ _ _ h => h) (Or.inl ⟨by kernel_rfl, ?_⟩) (by assumption) ?_
        rotate_left 1
        · (intro wS hSw; (try dsimp only at hSw); go_simp; try with_reducible rfl)
        try simp only [Act.put, List.setIfInBounds_toArray, List.set_cons_zero, List.set_cons_succ]
        refine wpAnyH_take (i := 3) (oi := { dst := some 20, op := Op.load 56 (Operand.tmp 19), type := 56, pos := "ref.go:199", after := #[{ on := 2, ground := Ground.data }], guard := none }) rfl (by kernel_rfl) (by kernel_rfl) (by kernel_rfl) (fun _ _ _ h => h) (Or.inl ⟨by kernel_rfl, fun wS hSw => ex_load 56 (.tmp 19) rfl b (o + j * 34) 34 (ev (xs j)) rfl Tryz.underlying56 rfl szEntry hSw.1⟩) (by assumption) ?_
        try simp only [Act.put, List.setIfInBounds_toArray, List.set_cons_zero, List.set_cons_succ]
        refine wpAnyH_take (i := 4) (oi := { dst := some 21, op := Op.move (Operand.tmp 1), type := 32, pos := "ref.go:199", after := #[], guard := none }) (v := ?_) rfl (by kernel_rfl) (by kernel_rfl) (by kernel_rfl) (fun _ _ _ h => h) (Or.inl ⟨by kernel_rfl, ?_⟩) (by assumption) ?_
        rotate_left 1
        · (intro wS hSw; (try dsimp only at hSw); go_simp; try with_reducible rfl)
        try simp only [Act.put, List.setIfInBounds_toArray, List.set_cons_zero, List.set_cons_succ]
        refine wpAnyH_take (i := 5) (oi := { dst := some 22, op := Op.move (Operand.tmp 5), type := 3, pos := "ref.go:199", after := #[], guard := none }) (v := ?_) rfl (by kernel_rfl) (by kernel_rfl) (by kernel_rfl) (fun _ _ _ h => h) (Or.inl ⟨by kernel_rfl, ?_⟩) (by assumption) ?_
        rotate_left 1
        · (intro wS hSw; (try dsimp only at hSw); go_simp; try with_reducible rfl)
        try simp only [Act.put, List.setIfInBounds_toArray, List.set_cons_zero, List.set_cons_succ]
        refine wpAnyH_take (i := 6) (oi := { dst := some 23, op := Op.indexAddr 32 (Operand.tmp 21) (Operand.tmp 22), type := 0, pos := "ref.go:199", after := #[{ on := 4, ground := Ground.data }, { on := 5, ground := Ground.data }], guard := none }) (v := ?_) rfl (by kernel_rfl) (by kernel_rfl) (by kernel_rfl) (fun _ _ _ h => h) (Or.inl ⟨by kernel_rfl, ?_⟩) (by assumption) ?_
        rotate_left 1
        · (intro wS hSw; (try dsimp only at hSw); go_simp; try with_reducible rfl)
        try simp only [Act.put, List.setIfInBounds_toArray, List.set_cons_zero, List.set_cons_succ]
        refine wpAnyH_take (i := 7) (oi := { dst := some 24, op := Op.load 56 (Operand.tmp 23), type := 56, pos := "ref.go:199", after := #[{ on := 6, ground := Ground.data }], guard := none }) rfl (by kernel_rfl) (by kernel_rfl) (by kernel_rfl) (fun _ _ _ h => h) (Or.inl ⟨by kernel_rfl, fun wS hSw => ex_load 56 (.tmp 23) rfl b2 (o2 + j * 34) 34 (ev (ys j)) rfl Tryz.underlying56 rfl szEntry hSw.2⟩) (by assumption) ?_
        try simp only [Act.put, List.setIfInBounds_toArray, List.set_cons_zero, List.set_cons_succ]
        refine wpAnyH_take (i := 8) (oi := { dst := some 25, op := Op.binOp BinOp.neq 56 (Operand.tmp 20) (Operand.tmp 24) 56, type := 4, pos := "ref.go:199", after := #[{ on := 3, ground := Ground.data }, { on := 7, ground := Ground.data }], guard := none }) (v := ?_) rfl (by kernel_rfl) (by kernel_rfl) (by kernel_rfl) (fun _ _ _ h => h) (Or.inl ⟨by kernel_rfl, ?_⟩) (by assumption) ?_
        rotate_left 1
        · (intro wS hSw; (try dsimp only at hSw); go_simp; try with_reducible rfl)
        try simp only [Act.put, List.setIfInBounds_toArray, List.set_cons_zero, List.set_cons_succ]
        refine wpAnyH_done (by kernel_rfl) ?_ _
        refine NoPanic.normal ?_
        clear hHeld S0 q
        by_cases hs : eqE (xs j) (ys j)
        · rw [decide_eq_true hs]
          have S2 : Hid (∀ x, x < j + 1 → eqE (xs x) (ys x)) := fun x hx => by
            by_cases c : x < j
            · exact hS.out x c
            · rw [show x = j by omega]; exact hs
          have L2 : Hid (Below w.heap.size w wr.drew) := hL.out.drew
          clear hs
          simp only [Bool.not_true]
          go_wp2
          go_roundw
          case rel => exact ⟨j + 1, HLT.out, by go_num, S2, L2⟩
          case measure => simp [intOf]; have := HLT.out; omega
        · rw [decide_eq_false hs]
          have E := Lib.hid (hF.out fun h => hs (h.2 j HLT.out))
          clear hs
          simp only [Bool.not_false]
          go_wp2
          go_ret
          rw [E.out]
          exact ⟨rfl, hL.out.drew⟩
      · have ej : j = n := by omega
        subst ej
        have E := Lib.hid (hT.out ⟨by first | trivial | rfl, hS.out⟩)
        have yj : (j : Int) ≤ (j : Int) := by omega
        clear hlt
        go_wp2
        go_ret
        rw [E.out]
        exact ⟨rfl, hL.out⟩
  · have t1 : ((n : Int) != (k : Int)) = true := by simp; omega
    have E := Lib.hid (hF.out fun h => hnk h.1)
    clear hnk
    go_enter Tryz.func18, Tryz.ntmps18
    go_wp2
    go_ret
    rw [E.out]
    exact ⟨rfl, Below.refl _ _⟩
theorem sameents_any (xs ys : Nat → Ent) (n k : Nat) (u v : Value) (w : World) (hX : Row w u 34 (ec xs) n) (hY : Row w v 34 (ec ys) k) (hn : n ≤ 9223372036854775807) (hk : k ≤ 9223372036854775807) :
    Calls Tryz.prog 18 #[u, v] w fun e w' => e = .returned (.bool (decide (n = k ∧ ∀ i, i < n → eqE (xs i) (ys i)))) ∧ Below w.heap.size w w' :=
  sameents_any_aux xs ys n k u v w _ (fun h => decide_eq_true h) (fun h => decide_eq_false h) hX hY hn hk
/- more than 60 entries, or a name of more than 100 bytes -/
def greatE (es : Nat → Ent) (n : Nat) : Prop := 60 < n ∨ ∃ i, i < n ∧ 100 < (es i).name.length
end Go.Proofs.YtlbclfponongbaaGreatDoor
/- A commit's object. -/
namespace Go.Proofs.YtlbclfponongbaaGreatDoor
open Go.RowKit Classical
theorem clamp_small (n : Nat) (h : n ≤ 1099511627775) : clamp (n : Int) = n := by unfold clamp; omega
theorem Row.keepB {K : Nat → Prop} {W W' : World} {v : Value} {m : Nat} {c : Nat → Value} {n : Nat} (h : Row W v m c n) (hk : Keep K W W') (hK : ∀ g, g < W.heap.size → K g) : Row W' v m c n := by
  rcases h with h | ⟨b, k, cap, h1, h2, h3, h4, h5⟩
  · exact Or.inl h
  · exact Or.inr ⟨b, k, cap, h1, h2, h3, Nat.lt_of_lt_of_le h4 hk.size, fun i hi => hk.cell (hK _ h4) (h5 i hi)⟩
theorem cv_parts {w : World} {z : Nat} {t : Nat → UInt8} {v : Value} {s : List UInt8} (h : Blk w z 37 34 (cv t v s)) : w.cell? ⟨z, 32, none⟩ = some v ∧ w.cell? ⟨z, 33, none⟩ = some (.string (bs s)) ∧ At w z 0 32 (bv t) := by
  refine ⟨h.cell 32 (by omega), h.cell 33 (by omega), h.at0.part 0 32 _ (by omega) fun j hj => ?_⟩
  unfold cv
  rw [if_pos (by omega), Nat.zero_add]
  rfl
theorem comB_len (c : Com) (h : comOk c) : (comB c).length ≤ 400 := by
  unfold comB
  have h1 := dg_le6 (show c.n ≤ 1099511627775 by have := h.1; omega)
  have h2 := dg_le6 (clamp_le (c.text.length : Int))
  have := h.1
  have := h.2.1
  rw [List.length_append, List.length_append, List.length_append, idL_length, tx_len, pb_len]
  omega
end Go.Proofs.YtlbclfponongbaaGreatDoor
