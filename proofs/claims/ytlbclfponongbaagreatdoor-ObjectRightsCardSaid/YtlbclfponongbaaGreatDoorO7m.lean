import Derived.Test.YtlbclfponongbaaGreatDoorO5m
import Derived.StillTailTactics
/- Whether a commit may be: the walks. -/
namespace Go.Proofs.YtlbclfponongbaaGreatDoor
open Go.RowKit Classical
set_option maxHeartbeats 2000000 in
set_option maxRecDepth 100000 in
theorem ocom_any (t : Nat → UInt8) (p : Nat → Nat → UInt8) (n : Nat) (s : List UInt8) (v : Value) (w : World) (hR : Row w v 32 (pc p) n) (hn : n ≤ 140737488355328) :
    Calls Tryz.prog 72 #[.agg (arr 34 (cv t v s))] w fun e w' => e = .returned (.bool (decide (comOk ⟨t, n, p, s⟩))) ∧ Below w.heap.size w w' := by
  obtain ⟨ad, cap, rfl, ha⟩ := row_addr hR
  have HA := Lib.hid ha
  have HCAP := Lib.hid (fun h => row_cap hR h)
  have hz := bs_size s
  have B0 : Blk (w.alloc (.cells (arr 34 (cv t (.slice ad n cap) s)) 37)) w.heap.size 37 34 (cv t (.slice ad n cap) s) := Blk.newAt _ (heap_alloc_new _ _) rfl
  have L0 : Hid (Below w.heap.size w (w.alloc (.cells (arr 34 (cv t (.slice ad n cap) s)) 37))) := (Below.refl _ _).alloc (Nat.le_refl _) _
  clear ha hR
  go_enter Tryz.func72, Tryz.ntmps72
  go_upto_region 1 with fail
  change Code.wp _ _ _ _ (w.alloc (.cells (arr 34 (cv t (.slice ad n cap) s)) 37))
  have HA1 : Hid (0 < n → ∃ b o, ad = some ⟨b, o, none⟩ ∧ b < (w.alloc (.cells (arr 34 (cv t (.slice ad n cap) s)) 37)).heap.size ∧ At (w.alloc (.cells (arr 34 (cv t (.slice ad n cap) s)) 37)) b o (n * 32) (pc p)) := fun h0 => by
    obtain ⟨b, o, h1, h2, h3⟩ := HA.out h0
    exact ⟨b, o, h1, Nat.lt_of_lt_of_le h2 L0.out.size, h3.below L0.out h2⟩
  clear HA
  generalize w.alloc (.cells (arr 34 (cv t (.slice ad n cap) s)) 37) = w1 at B0 L0 HA1 ⊢
  generalize w.heap.size = zb at B0 ⊢
  have c32 : w1.cell? ⟨zb, 32, none⟩ = some (.slice ad n cap) := B0.cell 32 (by omega)
  have c33 : w1.cell? ⟨zb, 33, none⟩ = some (.string (bs s)) := B0.cell 33 (by omega)
  have hzb : Hid (zb < w1.heap.size) := B0.lt
  generalize bs s = sb at hz c33
  clear B0
  by_cases h4 : 4 < n
  · have E := Lib.hid (decide_eq_false (p := comOk ⟨t, n, p, s⟩) fun h => by have := h.1; dsimp only at this; omega)
    have t1 : (4 : Int) < (n : Int) := by omega
    clear h4
    go_wp2
    go_ret
    rw [E.out]
    exact ⟨rfl, L0.out⟩
  · have t1 : decide ((4 : Int) < (n : Int)) = false := by simp; omega
    by_cases h64 : 64 < s.length
    · have E := Lib.hid (decide_eq_false (p := comOk ⟨t, n, p, s⟩) fun h => by have := h.2.1; dsimp only at this; omega)
      have t2 : (64 : Int) < (sb.size : Int) := by omega
      clear h4 h64
      go_wp2
      go_ret
      rw [E.out]
      exact ⟨rfl, L0.out⟩
    · have t2 : decide ((64 : Int) < (sb.size : Int)) = false := by simp; omega
      have T2 : Hid ((okC p n ↔ comOk ⟨t, n, p, s⟩) ∧ n ≤ 4) := ⟨⟨fun h => ⟨by show n ≤ 4; omega, by show s.length ≤ 64; omega, h⟩, fun h => h.2.2⟩, by omega⟩
      clear h4 h64 hz
      go_wp2
      go_loopw [18] (fun i wr => ∃ k : Nat, k ≤ n ∧ i = .int .i64 k ∧ Hid (okC p k) ∧ Hid (Below w1.heap.size w1 wr)) (fun i _ => n - (intOf i).toNat)
      case atStart => exact ⟨0, by omega, rfl, okC_zero p, Below.refl _ _⟩
      case round =>
        obtain ⟨k, hk, rfl, hO, hL⟩ := hrel
        have c32r : wr.cell? ⟨zb, 32, none⟩ = some (.slice ad n cap) := by rw [hL.out.cell hzb.out]; exact c32
        by_cases hlt : k < n
        · obtain ⟨b, o, rfl, hb, hc0⟩ := HA1.out (by omega)
          have HC1 : Hid (At wr b o (n * 32) (pc p)) := hc0.below hL.out hb
          have ck := HC1.out.idk k hlt
          have zk : (0 : Int) ≤ (k : Int) := by omega
          have yk : (k : Int) < (n : Int) := by omega
          have HLT := Lib.hid hlt
          have HB : Hid (b < wr.heap.size) := Nat.lt_of_lt_of_le hb hL.out.size
          clear hc0 hb
          go_upto_region 6 with (first | (refine wpList_val rfl _ _ (ex_load 29 (.tmp 21) rfl b (o + k * 32) 32 (bv (p k)) rfl Tryz.underlying29 rfl sz30 ck) ?_) | (refine wpList_store_blk rfl 29 (.tmp 4) (.tmp 22) rfl wr.heap.size 32 (bv (p k)) (bv fun _ => 0) rfl rfl 29 (Blk.newAt _ (heap_alloc_new _ _) rfl) sz30 (fun _ _ => rfl) ?_))
          rw [World.setRow_alloc_new]
          have B1 : Blk (wr.alloc (.cells (arr 32 (bv (p k))) 29)) wr.heap.size 29 32 (bv (p k)) := Blk.newAt _ (heap_alloc_new _ _) rfl
          have A1 : Hid (Below wr.heap.size wr (wr.alloc (.cells (arr 32 (bv (p k))) 29))) := (Below.refl _ _).alloc (Nat.le_refl _) _
          have L1 : Hid (Below w1.heap.size w1 (wr.alloc (.cells (arr 32 (bv (p k))) 29))) := hL.out.trans (A1.out.mono hL.out.size)
          have c32s : (wr.alloc (.cells (arr 32 (bv (p k))) 29)).cell? ⟨zb, 32, none⟩ = some (.slice (some ⟨b, o, none⟩) n cap) := by rw [L1.out.cell hzb.out]; exact c32
          have HC2 : Hid (At (wr.alloc (.cells (arr 32 (bv (p k))) 29)) b o (n * 32) (pc p)) := HC1.out.below A1.out HB.out
          clear ck HC1 A1
          generalize wr.alloc (.cells (arr 32 (bv (p k))) 29) = w2 at B1 L1 HC2 c32s ⊢
          generalize wr.heap.size = ib at B1 HB ⊢
          have S0 : w2.drew.cell? ⟨zb, 32, none⟩ = some (.slice (some ⟨b, o, none⟩) n cap) ∧ At w2.drew ib 0 32 (bv (p k)) := ⟨c32s, B1.at0⟩
          have CC := Lib.hid (fun (W : World) (h : At W b o (n * 32) (pc p)) => cont_any p (p k) b o k cap W (by omega) (fun j hj => h j (by omega)))
          have wk : IntKind.i64.wrap (k : Int) = (k : Int) := IntWalk.i64_in _ (by omega)
          have rk : (k : Int) ≤ (cap : Int) := by have := HCAP.out (by omega); omega
          clear B1 c32r
          refine wp_region_noPanic ?_
          refine wp_region_held_drew (S := (fun w' => w'.cell? ⟨zb, 32, none⟩ = some (.slice (some ⟨b, o, none⟩) n cap) ∧ At w' ib 0 32 (bv (p k)))) (by kernel_rfl) S0 (fun hHeld => ?_)
          refine wpAnyH_take (i := 0) (oi := { dst := some 23, op := Op.fieldAddr 37 (Operand.tmp 1) 1, type := 0, pos := "body.go:95", after := #[], guard := none }) (v := ?_) rfl (by kernel_rfl) (by kernel_rfl) (by kernel_rfl) (fun _ _ _ h => h) (Or.inl ⟨by kernel_rfl, ?_⟩) (by assumption) ?_
          rotate_left 1
          · (intro wS hSw; (try dsimp only at hSw); go_simp; try with_reducible rfl)
          try simp only [Act.put, List.setIfInBounds_toArray, List.set_cons_zero, List.set_cons_succ]
          refine wpAnyH_take (i := 1) (oi := { dst := some 24, op := Op.load 35 (Operand.tmp 23), type := 35, pos := "body.go:95", after := #[{ on := 0, ground := Ground.data }], guard := none }) (v := ?_) rfl (by kernel_rfl) (by kernel_rfl) (by kernel_rfl) (fun _ _ _ h => h) (Or.inl ⟨by kernel_rfl, ?_⟩) (by assumption) ?_
          rotate_left 1
          · (intro wS hSw; (try dsimp only at hSw); go_simp; try with_reducible rfl)
          try simp only [Act.put, List.setIfInBounds_toArray, List.set_cons_zero, List.set_cons_succ]
          refine wpAnyH_take (i := 2) (oi := { dst := some 25, op := Op.move (Operand.tmp 3), type := 3, pos := "body.go:95", after := #[], guard := none }) (v := ?_) rfl (by kernel_rfl) (by kernel_rfl) (by kernel_rfl) (fun _ _ _ h => h) (Or.inl ⟨by kernel_rfl, ?_⟩) (by assumption) ?_
          rotate_left 1
          · (intro wS hSw; (try dsimp only at hSw); go_simp; try with_reducible rfl)
          try simp only [Act.put, List.setIfInBounds_toArray, List.set_cons_zero, List.set_cons_succ]
          refine wpAnyH_take (i := 3) (oi := { dst := some 26, op := Op.slice 35 (Operand.tmp 24) none (some (Operand.tmp 25)) none, type := 35, pos := "body.go:95", after := #[{ on := 1, ground := Ground.data }, { on := 2, ground := Ground.data }], guard := none }) (v := ?_) rfl (by kernel_rfl) (by kernel_rfl) (by kernel_rfl) (fun _ _ _ h => h) (Or.inl ⟨by kernel_rfl, ?_⟩) (by assumption) ?_
          rotate_left 1
          · (intro wS hSw; (try dsimp only at hSw); go_simp; try with_reducible rfl)
          try simp only [Act.put, List.setIfInBounds_toArray, List.set_cons_zero, List.set_cons_succ]
          refine wpAnyH_take (i := 4) (oi := { dst := some 27, op := Op.load 29 (Operand.tmp 4), type := 29, pos := "body.go:95", after := #[], guard := none }) rfl (by kernel_rfl) (by kernel_rfl) (by kernel_rfl) (fun _ _ _ h => h) (Or.inl ⟨by kernel_rfl, fun wS hSw => ex_load 29 (.tmp 4) rfl ib 0 32 (bv (p k)) rfl Tryz.underlying29 rfl sz30 hSw.2⟩) (by assumption) ?_
          try simp only [Act.put, List.setIfInBounds_toArray, List.set_cons_zero, List.set_cons_succ]
          have HW : Hid (w2.heap.size = w2.drew.heap.size ∧ zb < w2.heap.size ∧ ib < w2.heap.size) := ⟨rfl, Nat.lt_of_lt_of_le hzb.out L1.out.size, S0.2.lt (by omega)⟩
          refine wpAnyH_ready (rs := [5]) (by kernel_rfl) (by simp) ?_
          refine AllReadyH.cons (o := { dst := some 28, op := Op.call { callee := Callee.value (Operand.func 93), args := #[Operand.tmp 26, Operand.tmp 27], argTypes := #[35, 29] }, type := 4, pos := "body.go:95", after := #[{ on := 3, ground := Ground.data }, { on := 4, ground := Ground.data }], guard := none }) rfl (fun K hK => ?_) AllReadyH.nil
          go_simp
          refine (CC.out w2.drew HC2.out).mono ?_
          rintro e w3 ⟨rfl, hB3⟩
          have Sa5 := And.intro ((hB3.cell HW.out.2.1).trans S0.1) (S0.2.below hB3 HW.out.2.2)
          refine hK.out _ _ Sa5 (fun hHeld5 => ?_)
          clear hK K
          try simp only [Act.put, List.setIfInBounds_toArray, List.set_cons_zero, List.set_cons_succ]
          refine wpAnyH_done (by kernel_rfl) ?_ _
          refine NoPanic.normal ?_
          have L3 : Hid (Below w1.heap.size w1 w3) := L1.out.drew.trans ((hB3.mono L1.out.size : Below w1.heap.size w2.drew w3))
          clear hHeld hHeld5 hB3 Sa5 S0 c32s wk rk
          by_cases ham : among p k (p k)
          · rw [decide_eq_true ham]
            have E := Lib.hid (decide_eq_false (p := comOk ⟨t, n, p, s⟩) fun h => okC_not HLT.out ham (T2.out.1.2 h))
            clear ham
            go_wp2
            go_ret
            rw [E.out]
            exact ⟨rfl, L0.out.trans (L3.out.mono L0.out.size)⟩
          · rw [decide_eq_false ham]
            have O2 := Lib.hid (okC_succ hO.out ham)
            clear ham
            go_wp2
            go_roundw
            case rel => exact ⟨k + 1, HLT.out, by go_num, O2, L3⟩
            case measure => simp [intOf]; omega
        · have ek : k = n := by omega
          subst ek
          have E := Lib.hid (decide_eq_true (T2.out.1.1 hO.out))
          have yk : (k : Int) ≤ (k : Int) := by omega
          clear hlt
          go_wp2
          go_ret
          rw [E.out]
          exact ⟨rfl, L0.out.trans (hL.out.mono L0.out.size)⟩
end Go.Proofs.YtlbclfponongbaaGreatDoor
/- Whether a commit may be: the reference's answer. -/
namespace Go.Proofs.YtlbclfponongbaaGreatDoor
open Go.RowKit Classical
set_option maxHeartbeats 2000000 in
set_option maxRecDepth 100000 in
theorem qcom_any (t : Nat → UInt8) (p : Nat → Nat → UInt8) (n : Nat) (s : List UInt8) (v : Value) (w : World) (hR : Row w v 32 (pc p) n) (hn : n ≤ 140737488355328) :
    Calls Tryz.prog 36 #[.agg (arr 34 (cv t v s))] w fun e w' => e = .returned (.bool (decide (comOk ⟨t, n, p, s⟩))) ∧ Below w.heap.size w w' := by
  obtain ⟨ad, cap, rfl, ha⟩ := row_addr hR
  have HA := Lib.hid ha
  have hz := bs_size s
  have B0 : Blk (w.alloc (.cells (arr 34 (cv t (.slice ad n cap) s)) 37)) w.heap.size 37 34 (cv t (.slice ad n cap) s) := Blk.newAt _ (heap_alloc_new _ _) rfl
  have L0 : Hid (Below w.heap.size w (w.alloc (.cells (arr 34 (cv t (.slice ad n cap) s)) 37))) := (Below.refl _ _).alloc (Nat.le_refl _) _
  clear ha hR
  go_enter Tryz.func36, Tryz.ntmps36
  go_upto_region 1 with fail
  change Code.wp _ _ _ _ (w.alloc (.cells (arr 34 (cv t (.slice ad n cap) s)) 37))
  have HA1 : Hid (0 < n → ∃ b o, ad = some ⟨b, o, none⟩ ∧ b < (w.alloc (.cells (arr 34 (cv t (.slice ad n cap) s)) 37)).heap.size ∧ At (w.alloc (.cells (arr 34 (cv t (.slice ad n cap) s)) 37)) b o (n * 32) (pc p)) := fun h0 => by
    obtain ⟨b, o, h1, h2, h3⟩ := HA.out h0
    exact ⟨b, o, h1, Nat.lt_of_lt_of_le h2 L0.out.size, h3.below L0.out h2⟩
  clear HA
  generalize w.alloc (.cells (arr 34 (cv t (.slice ad n cap) s)) 37) = w1 at B0 L0 HA1 ⊢
  generalize w.heap.size = zb at B0 ⊢
  have c32 : w1.cell? ⟨zb, 32, none⟩ = some (.slice ad n cap) := B0.cell 32 (by omega)
  have c33 : w1.cell? ⟨zb, 33, none⟩ = some (.string (bs s)) := B0.cell 33 (by omega)
  have hzb : Hid (zb < w1.heap.size) := B0.lt
  generalize bs s = sb at hz c33
  clear B0
  by_cases h4 : 4 < n
  · have E := Lib.hid (decide_eq_false (p := comOk ⟨t, n, p, s⟩) fun h => by have := h.1; dsimp only at this; omega)
    have t1 : (4 : Int) < (n : Int) := by omega
    clear h4
    go_wp2
    go_ret
    rw [E.out]
    exact ⟨rfl, L0.out⟩
  · have t1 : decide ((4 : Int) < (n : Int)) = false := by simp; omega
    by_cases h64 : 64 < s.length
    · have E := Lib.hid (decide_eq_false (p := comOk ⟨t, n, p, s⟩) fun h => by have := h.2.1; dsimp only at this; omega)
      have t2 : (64 : Int) < (sb.size : Int) := by omega
      clear h4 h64
      go_wp2
      go_ret
      rw [E.out]
      exact ⟨rfl, L0.out⟩
    · have t2 : decide ((64 : Int) < (sb.size : Int)) = false := by simp; omega
      have T2 : Hid ((okC p n ↔ comOk ⟨t, n, p, s⟩) ∧ n ≤ 4) := ⟨⟨fun h => ⟨by show n ≤ 4; omega, by show s.length ≤ 64; omega, h⟩, fun h => h.2.2⟩, by omega⟩
      clear h4 h64 hz
      go_wp2
      go_loopw [3] (fun i wr => ∃ k : Nat, k ≤ n ∧ i = .int .i64 k ∧ Hid (okC p k) ∧ Hid (Below w1.heap.size w1 wr)) (fun i _ => n - (intOf i).toNat)
      case atStart => exact ⟨0, by omega, rfl, okC_zero p, Below.refl _ _⟩
      case round =>
        obtain ⟨k, hk, rfl, hO, hL⟩ := hrel
        have c32r : wr.cell? ⟨zb, 32, none⟩ = some (.slice ad n cap) := by rw [hL.out.cell hzb.out]; exact c32
        by_cases hlt : k < n
        · obtain ⟨b, o, rfl, hb, hc0⟩ := HA1.out (by omega)
          have zk : (0 : Int) ≤ (k : Int) := by omega
          have yk : (k : Int) < (n : Int) := by omega
          have HLT := Lib.hid hlt
          go_wp2
          go_loopw [4] (fun i wq => ∃ j : Nat, j ≤ k ∧ i = .int .i64 j ∧ Hid (∀ x, x < j → ¬ same32 (p x) (p k)) ∧ Hid (Below w1.heap.size w1 wq)) (fun i _ => k - (intOf i).toNat)
          case atStart => exact ⟨0, by omega, rfl, (fun x hx => absurd hx (by omega)), hL⟩
          case round =>
            rename_i _ hL0
            clear c32r
            obtain ⟨j, hj, rfl, hJ, hL1⟩ := hrel
            by_cases hjk : j < k
            · have zj : (0 : Int) ≤ (j : Int) := by omega
              have yj : (j : Int) < (n : Int) := by omega
              have HJK := Lib.hid hjk
              have hA : At wr.drew b o (n * 32) (pc p) := (hc0.below hL1.out hb : At wr b o (n * 32) (pc p))
              have S0 : wr.drew.cell? ⟨zb, 32, none⟩ = some (.slice (some ⟨b, o, none⟩) n cap) ∧ At wr.drew b (o + k * 32) 32 (bv (p k)) ∧ At wr.drew b (o + j * 32) 32 (bv (p j)) := ⟨(hL1.out.cell hzb.out).trans c32, hA.idk k hlt, hA.idk j (by omega)⟩
              have q := fun W => eqlId (p k) (p j) W
              clear hA
              go_upto_region 9 with fail
              refine wp_region_noPanic ?_
              refine wp_region_held_drew (S := (fun w' => w'.cell? ⟨zb, 32, none⟩ = some (.slice (some ⟨b, o, none⟩) n cap) ∧ At w' b (o + k * 32) 32 (bv (p k)) ∧ At w' b (o + j * 32) 32 (bv (p j)))) (by kernel_rfl) S0 (fun hHeld => ?_)
              refine wpAnyH_take (i := 0) (oi := { dst := some 27, op := Op.fieldAddr 37 (Operand.tmp 1) 1, type := 0, pos := "ref.go:43", after := #[], guard := none }) (v := ?_) rfl (by kernel_rfl) (by kernel_rfl) (by kernel_rfl) (fun _ _ _ h => h) (Or.inl ⟨by kernel_rfl, ?_⟩) (by assumption) ?_
              rotate_left 1
              · (intro wS hSw; (try dsimp only at hSw); go_simp; try with_reducible rfl)
              try simp only [Act.put, List.setIfInBounds_toArray, List.set_cons_zero, List.set_cons_succ]
              refine wpAnyH_take (i := 1) (oi := { dst := some 28, op := Op.load 35 (Operand.tmp 27), type := 35, pos := "ref.go:43", after := #[{ on := 0, ground := Ground.data }], guard := none }) (v := ?_) rfl (by kernel_rfl) (by kernel_rfl) (by kernel_rfl) (fun _ _ _ h => h) (Or.inl ⟨by kernel_rfl, ?_⟩) (by assumption) ?_
              rotate_left 1
              · (intro wS hSw; (try dsimp only at hSw); go_simp; try with_reducible rfl)
              try simp only [Act.put, List.setIfInBounds_toArray, List.set_cons_zero, List.set_cons_succ]
              refine wpAnyH_take (i := 2) (oi := { dst := some 29, op := Op.move (Operand.tmp 3), type := 3, pos := "ref.go:43", after := #[], guard := none }) (v := ?_) rfl (by kernel_rfl) (by kernel_rfl) (by kernel_rfl) (fun _ _ _ h => h) (Or.inl ⟨by kernel_rfl, ?_⟩) (by assumption) ?_
              rotate_left 1
              · (intro wS hSw; (try dsimp only at hSw); go_simp; try with_reducible rfl)
              try simp only [Act.put, List.setIfInBounds_toArray, List.set_cons_zero, List.set_cons_succ]
              refine wpAnyH_take (i := 3) (oi := { dst := some 30, op := Op.indexAddr 35 (Operand.tmp 28) (Operand.tmp 29), type := 0, pos := "ref.go:43", after := #[{ on := 1, ground := Ground.data }, { on := 2, ground := Ground.data }], guard := none }) (v := ?_) rfl (by kernel_rfl) (by kernel_rfl) (by kernel_rfl) (fun _ _ _ h => h) (Or.inl ⟨by kernel_rfl, ?_⟩) (by assumption) ?_
              rotate_left 1
              · (intro wS hSw; (try dsimp only at hSw); go_simp; try with_reducible rfl)
              try simp only [Act.put, List.setIfInBounds_toArray, List.set_cons_zero, List.set_cons_succ]
              refine wpAnyH_take (i := 4) (oi := { dst := some 31, op := Op.load 29 (Operand.tmp 30), type := 29, pos := "ref.go:43", after := #[{ on := 3, ground := Ground.data }], guard := none }) rfl (by kernel_rfl) (by kernel_rfl) (by kernel_rfl) (fun _ _ _ h => h) (Or.inl ⟨by kernel_rfl, fun wS hSw => ex_load 29 (.tmp 30) rfl b (o + k * 32) 32 (bv (p k)) rfl Tryz.underlying29 rfl sz30 hSw.2.1⟩) (by assumption) ?_
              try simp only [Act.put, List.setIfInBounds_toArray, List.set_cons_zero, List.set_cons_succ]
              refine wpAnyH_take (i := 5) (oi := { dst := some 32, op := Op.fieldAddr 37 (Operand.tmp 1) 1, type := 0, pos := "ref.go:43", after := #[], guard := none }) (v := ?_) rfl (by kernel_rfl) (by kernel_rfl) (by kernel_rfl) (fun _ _ _ h => h) (Or.inl ⟨by kernel_rfl, ?_⟩) (by assumption) ?_
              rotate_left 1
              · (intro wS hSw; (try dsimp only at hSw); go_simp; try with_reducible rfl)
              try simp only [Act.put, List.setIfInBounds_toArray, List.set_cons_zero, List.set_cons_succ]
              refine wpAnyH_take (i := 6) (oi := { dst := some 33, op := Op.load 35 (Operand.tmp 32), type := 35, pos := "ref.go:43", after := #[{ on := 5, ground := Ground.data }], guard := none }) (v := ?_) rfl (by kernel_rfl) (by kernel_rfl) (by kernel_rfl) (fun _ _ _ h => h) (Or.inl ⟨by kernel_rfl, ?_⟩) (by assumption) ?_
              rotate_left 1
              · (intro wS hSw; (try dsimp only at hSw); go_simp; try with_reducible rfl)
              try simp only [Act.put, List.setIfInBounds_toArray, List.set_cons_zero, List.set_cons_succ]
              refine wpAnyH_take (i := 7) (oi := { dst := some 34, op := Op.move (Operand.tmp 4), type := 3, pos := "ref.go:43", after := #[], guard := none }) (v := ?_) rfl (by kernel_rfl) (by kernel_rfl) (by kernel_rfl) (fun _ _ _ h => h) (Or.inl ⟨by kernel_rfl, ?_⟩) (by assumption) ?_
              rotate_left 1
              · (intro wS hSw; (try dsimp only at hSw); go_simp; try with_reducible rfl)
              try simp only [Act.put, List.setIfInBounds_toArray, List.set_cons_zero, List.set_cons_succ]
              refine wpAnyH_take (i := 8) (oi := { dst := some 35, op := Op.indexAddr 35 (Operand.tmp 33) (Operand.tmp 34), type := 0, pos := "ref.go:43", after := #[{ on := 6, ground := Ground.data }, { on := 7, ground := Ground.data }], guard := none }) (v := ?_) rfl (by kernel_rfl) (by kernel_rfl) (by kernel_rfl) (fun _ _ _ h => h) (Or.inl ⟨by kernel_rfl, ?_⟩) (by assumption) ?_
              rotate_left 1
              · (intro wS hSw; (try dsimp only at hSw); go_simp; try with_reducible rfl)
              try simp only [Act.put, List.setIfInBounds_toArray, List.set_cons_zero, List.set_cons_succ]
              refine wpAnyH_take (i := 9) (oi := { dst := some 36, op := Op.load 29 (Operand.tmp 35), type := 29, pos := "ref.go:43", after := #[{ on := 8, ground := Ground.data }], guard := none }) rfl (by kernel_rfl) (by kernel_rfl) (by kernel_rfl) (fun _ _ _ h => h) (Or.inl ⟨by kernel_rfl, fun wS hSw => ex_load 29 (.tmp 35) rfl b (o + j * 32) 32 (bv (p j)) rfl Tryz.underlying29 rfl sz30 hSw.2.2⟩) (by assumption) ?_
              try simp only [Act.put, List.setIfInBounds_toArray, List.set_cons_zero, List.set_cons_succ]
              refine wpAnyH_take (i := 10) (oi := { dst := some 37, op := Op.binOp BinOp.eql 29 (Operand.tmp 31) (Operand.tmp 36) 29, type := 4, pos := "ref.go:43", after := #[{ on := 4, ground := Ground.data }, { on := 9, ground := Ground.data }], guard := none }) (v := ?_) rfl (by kernel_rfl) (by kernel_rfl) (by kernel_rfl) (fun _ _ _ h => h) (Or.inl ⟨by kernel_rfl, ?_⟩) (by assumption) ?_
              rotate_left 1
              · (intro wS hSw; (try dsimp only at hSw); go_simp; try with_reducible rfl)
              try simp only [Act.put, List.setIfInBounds_toArray, List.set_cons_zero, List.set_cons_succ]
              refine wpAnyH_done (by kernel_rfl) ?_ _
              refine NoPanic.normal ?_
              clear hHeld S0 q
              by_cases hs : same32 (p k) (p j)
              · rw [decide_eq_true hs]
                have E := Lib.hid (decide_eq_false (p := comOk ⟨t, n, p, s⟩) fun h => okC_not HLT.out ⟨j, HJK.out, fun i hi => (hs i hi).symm⟩ (T2.out.1.2 h))
                clear hs
                go_wp2
                go_ret
                rw [E.out]
                exact ⟨rfl, L0.out.trans (hL1.out.drew.mono L0.out.size)⟩
              · rw [decide_eq_false hs]
                have J2 : Hid (∀ x, x < j + 1 → ¬ same32 (p x) (p k)) := fun x hx h => by
                  by_cases c : x < j
                  · exact hJ.out x c h
                  · have e : x = j := by omega
                    subst e
                    exact hs fun i hi => (h i hi).symm
                have L2 : Hid (Below w1.heap.size w1 wr.drew) := hL1.out.drew
                clear hs
                go_wp2
                go_roundw
                case rel => exact ⟨j + 1, HJK.out, by go_num, J2, L2⟩
                case measure => simp [intOf]; omega
            · have ej : j = k := by omega
              subst ej
              have O2 := Lib.hid (okC_succ hO.out fun h => by obtain ⟨x, hx, h⟩ := h; exact hJ.out x hx h)
              have yj : (j : Int) ≤ (j : Int) := by omega
              clear hjk
              go_wp2
              go_roundw
              case rel => exact ⟨j + 1, HLT.out, by go_num, O2, hL1⟩
              case measure => simp [intOf]; omega
        · have ek : k = n := by omega
          subst ek
          have E := Lib.hid (decide_eq_true (T2.out.1.1 hO.out))
          have yk : (k : Int) ≤ (k : Int) := by omega
          clear hlt
          go_wp2
          go_ret
          rw [E.out]
          exact ⟨rfl, L0.out.trans (hL.out.mono L0.out.size)⟩
end Go.Proofs.YtlbclfponongbaaGreatDoor
