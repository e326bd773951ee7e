import Derived.Test.YtlbclfponongbaaGreatDoorQ8
import Derived.Test.YtlbclfponongbaaGreatDoorO20
/- What an object names: the reference. -/
namespace Go.Proofs.YtlbclfponongbaaGreatDoor
open Go.RowKit Classical
set_option maxHeartbeats 2000000 in
set_option maxRecDepth 100000 in
theorem qchildren_one (l : List UInt8) (w : World) :
    Calls Tryz.prog 16 #[.agg #[.int .i64 1, .string (bs l)]] w fun e w' => e = .returned (.slice none 0 0) ∧ Below w.heap.size w w' := by
  have L0 : Hid (Below w.heap.size w (w.alloc (.cells #[.int .i64 1, .string (bs l)] 23))) := (Below.refl _ _).alloc (Nat.le_refl _) _
  have c0 : (w.alloc (.cells #[.int .i64 1, .string (bs l)] 23)).cell? ⟨w.heap.size, 0, none⟩ = some (.int .i64 1) := cell_of_row _ _ _ _ _ _ (heap_alloc_new _ _)
  generalize bs l = sb at c0 L0 ⊢
  go_enter Tryz.func16, Tryz.ntmps16
  go_wp2
  go_ret
  exact ⟨rfl, L0.out⟩
def kidT (es : Nat → Ent) (i : Nat) : (Nat → UInt8) × Int := ((es i).id, (es i).kind)
set_option maxHeartbeats 4000000 in
set_option maxRecDepth 100000 in
theorem qchildren_two (l : List UInt8) (w : World) (ho : objOk 2 l) :
    Calls Tryz.prog 16 #[.agg #[.int .i64 2, .string (bs l)]] w fun e w' => ∃ v H m, e = .returned v ∧ Row w' v 33 (hc H) m ∧ Kids 2 l H m ∧ Below w.heap.size w w' := by
  have hl := ho.1
  have ht : isTree l := by
    rcases ho.2 with h | ⟨_, h⟩ | ⟨h, _⟩
    · omega
    · exact h
    · omega
  have L0 : Hid (Below w.heap.size w (w.alloc (.cells #[.int .i64 2, .string (bs l)] 23))) := (Below.refl _ _).alloc (Nat.le_refl _) _
  have BO : Hid (Blk (w.alloc (.cells #[.int .i64 2, .string (bs l)] 23)) w.heap.size 23 2 (ov 2 l)) := Blk.newAt _ (heap_alloc_new _ _) rfl
  have c0 : (w.alloc (.cells #[.int .i64 2, .string (bs l)] 23)).cell? ⟨w.heap.size, 0, none⟩ = some (.int .i64 2) := BO.out.cell 0 (by omega)
  have c1 : (w.alloc (.cells #[.int .i64 2, .string (bs l)] 23)).cell? ⟨w.heap.size, 1, none⟩ = some (.string (bs l)) := BO.out.cell 1 (by omega)
  have HE := Lib.hid (fun W => qentries_any l W (by omega))
  rw [decide_eq_true ht] at HE
  have OK := Lib.hid (And.intro ho ht)
  clear ho ht hl
  go_enter Tryz.func16, Tryz.ntmps16
  go_upto_region 4 with (go_at_call 17; refine (HE.out _).mono ?_; rintro e w2 ⟨es, n, v, rfl, R2, IT, -, L2⟩; have BO2 := Lib.hid (BO.out.below L2 BO.out.lt); have L2' := Lib.hid (L0.out.trans (L2.mono L0.out.size)))
  have IT' := Lib.hid (IT OK.out.2)
  obtain ⟨ad, cap, rfl, ha⟩ := row_addr R2
  have HA := Lib.hid ha
  have NN : Hid (n ≤ 32) := IT'.out.1.1
  have H0 : Hid (HS w2.heap.size w2 (kidT es) 0 (.slice none 0 0) w2) := ⟨Keep.refl _ _, by rw [Nat.zero_mul]; exact World.ownsRow_nil _ _ _ _, Nat.le_refl _⟩
  clear ha R2 IT L2 L0 BO HE c0 c1
  go_wp2
  go_loopw [3, 6] (fun u i wr => ∃ (j : Nat) (x : Value), j ≤ n ∧ i = .int .i64 j ∧ x = u ∧ Hid (HS w2.heap.size w2 (kidT es) j x wr)) (fun _ i _ => n - (intOf i).toNat)
  case atStart => exact ⟨0, _, Nat.zero_le _, rfl, rfl, H0⟩
  case round =>
    obtain ⟨j, x, hj, rfl, rfl, hS⟩ := hrel
    by_cases hlt : j < n
    · obtain ⟨b, o, rfl, hb4, hc0⟩ := HA.out (by omega)
      have SK : Hid (∀ W, Keep (· < w2.heap.size) w2 W → At W b (o + j * 34) 34 (ev (es j)) ∧ W.cell? ⟨b, o + j * 34 + 1, none⟩ = some (.int .i64 (es j).kind)) := fun W k => ⟨(hc0.keep k hb4 : At W b o (n * 34) (ec es)).ent j hlt, ((hc0.keep k hb4 : At W b o (n * 34) (ec es)).ent j hlt) 1 (by omega)⟩
      have zj : (0 : Int) ≤ (j : Int) := by omega
      have yj : (j : Int) < (n : Int) := by omega
      have HLT := Lib.hid hlt
      have N32 := NN.out
      have S0 : At wr.drew b (o + j * 34) 34 (ev (es j)) ∧ wr.drew.cell? ⟨b, o + j * 34 + 1, none⟩ = some (.int .i64 (es j).kind) := SK.out _ hS.out.keep.drew
      have SD : Hid (HS w2.heap.size w2 (kidT es) j x wr.drew) := hS.out.all (Below.refl _ _).drew
      obtain ⟨g, cap4, w7, hap, hN⟩ := SD.out.next (es j).id (es j).kind rfl (by omega)
      have HN := Lib.hid hN
      have SA := Lib.hid (SK.out _ (SD.out.all ((Below.refl wr.drew.heap.size wr.drew).alloc (Nat.le_refl _) (.cells (arr 33 (hv (es j).id (es j).kind)) 58))).keep)
      have S7 := SK.out _ HN.out.keep
      clear hN hc0 hb4 hS SK SD
      go_upto_region 7 with fail
      refine wp_region_noPanic ?_
      refine wp_region_held_drew (S := (fun V => At V b (o + j * 34) 34 (ev (es j)) ∧ V.cell? ⟨b, o + j * 34 + 1, none⟩ = some (.int .i64 (es j).kind))) (by kernel_rfl) S0 (fun hHeld => ?_)
      refine wpAnyH_take (i := 0) (oi := { dst := some 25, op := Op.move (Operand.tmp 3), type := 40, pos := "ref.go:163", after := #[], guard := none }) (v := ?_) rfl (by kernel_rfl) (by kernel_rfl) (by kernel_rfl) (fun _ _ _ h => h) (Or.inl ⟨by kernel_rfl, ?_⟩) (by assumption) ?_
      rotate_left 1
      · (intro wS hSw; (try dsimp only at hSw); go_simp; try with_reducible rfl)
      try simp only [Act.put, List.setIfInBounds_toArray, List.set_cons_zero, List.set_cons_succ]
      refine wpAnyH_take (i := 1) (oi := { dst := some 26, op := Op.move (Operand.tmp 4), type := 32, pos := "ref.go:163", after := #[], guard := none }) (v := ?_) rfl (by kernel_rfl) (by kernel_rfl) (by kernel_rfl) (fun _ _ _ h => h) (Or.inl ⟨by kernel_rfl, ?_⟩) (by assumption) ?_
      rotate_left 1
      · (intro wS hSw; (try dsimp only at hSw); go_simp; try with_reducible rfl)
      try simp only [Act.put, List.setIfInBounds_toArray, List.set_cons_zero, List.set_cons_succ]
      refine wpAnyH_take (i := 2) (oi := { dst := some 27, op := Op.move (Operand.tmp 6), type := 3, pos := "ref.go:163", after := #[], guard := none }) (v := ?_) rfl (by kernel_rfl) (by kernel_rfl) (by kernel_rfl) (fun _ _ _ h => h) (Or.inl ⟨by kernel_rfl, ?_⟩) (by assumption) ?_
      rotate_left 1
      · (intro wS hSw; (try dsimp only at hSw); go_simp; try with_reducible rfl)
      try simp only [Act.put, List.setIfInBounds_toArray, List.set_cons_zero, List.set_cons_succ]
      refine wpAnyH_take (i := 3) (oi := { dst := some 28, op := Op.indexAddr 32 (Operand.tmp 26) (Operand.tmp 27), type := 0, pos := "ref.go:163", after := #[{ on := 1, ground := Ground.data }, { on := 2, ground := Ground.data }], guard := none }) rfl (by kernel_rfl) (by kernel_rfl) (by kernel_rfl) (fun _ _ _ h => h) (Or.inl ⟨by kernel_rfl, fun wS hSw => ex_index 32 56 (.tmp 26) (.tmp 27) rfl b o j n cap 34 rfl rfl tEntries szEntry HLT.out⟩) (by assumption) ?_
      try simp only [Act.put, List.setIfInBounds_toArray, List.set_cons_zero, List.set_cons_succ]
      refine wpAnyH_take (i := 4) (oi := { dst := some 29, op := Op.fieldAddr 56 (Operand.tmp 28) 2, type := 0, pos := "ref.go:163", after := #[{ on := 3, ground := Ground.data }], guard := none }) rfl (by kernel_rfl) (by kernel_rfl) (by kernel_rfl) (fun _ _ _ h => h) (Or.inl ⟨by kernel_rfl, fun wS hSw => ex_fieldP fE2 (.tmp 28) rfl b (o + j * 34) rfl (o + j * 34 + 2) rfl⟩) (by assumption) ?_
      try simp only [Act.put, List.setIfInBounds_toArray, List.set_cons_zero, List.set_cons_succ]
      refine wpAnyH_take (i := 5) (oi := { dst := some 30, op := Op.load 29 (Operand.tmp 29), type := 29, pos := "ref.go:163", after := #[{ on := 4, ground := Ground.data }], guard := none }) rfl (by kernel_rfl) (by kernel_rfl) (by kernel_rfl) (fun _ _ _ h => h) (Or.inl ⟨by kernel_rfl, fun wS hSw => ex_load 29 (.tmp 29) rfl b (o + j * 34 + 2) 32 (bv (es j).id) rfl Tryz.underlying29 rfl sz30 (hSw.1.part 2 32 _ (by omega) (fun i _ => ev_id _ i))⟩) (by assumption) ?_
      try simp only [Act.put, List.setIfInBounds_toArray, List.set_cons_zero, List.set_cons_succ]
      refine wpAnyH_take (i := 6) (oi := { dst := some 31, op := Op.move (Operand.tmp 4), type := 32, pos := "ref.go:163", after := #[], guard := none }) (v := ?_) rfl (by kernel_rfl) (by kernel_rfl) (by kernel_rfl) (fun _ _ _ h => h) (Or.inl ⟨by kernel_rfl, ?_⟩) (by assumption) ?_
      rotate_left 1
      · (intro wS hSw; (try dsimp only at hSw); go_simp; try with_reducible rfl)
      try simp only [Act.put, List.setIfInBounds_toArray, List.set_cons_zero, List.set_cons_succ]
      refine wpAnyH_take (i := 7) (oi := { dst := some 32, op := Op.move (Operand.tmp 6), type := 3, pos := "ref.go:163", after := #[], guard := none }) (v := ?_) rfl (by kernel_rfl) (by kernel_rfl) (by kernel_rfl) (fun _ _ _ h => h) (Or.inl ⟨by kernel_rfl, ?_⟩) (by assumption) ?_
      rotate_left 1
      · (intro wS hSw; (try dsimp only at hSw); go_simp; try with_reducible rfl)
      try simp only [Act.put, List.setIfInBounds_toArray, List.set_cons_zero, List.set_cons_succ]
      refine wpAnyH_take (i := 8) (oi := { dst := some 33, op := Op.indexAddr 32 (Operand.tmp 31) (Operand.tmp 32), type := 0, pos := "ref.go:163", after := #[{ on := 6, ground := Ground.data }, { on := 7, ground := Ground.data }], guard := none }) rfl (by kernel_rfl) (by kernel_rfl) (by kernel_rfl) (fun _ _ _ h => h) (Or.inl ⟨by kernel_rfl, fun wS hSw => ex_index 32 56 (.tmp 31) (.tmp 32) rfl b o j n cap 34 rfl rfl tEntries szEntry HLT.out⟩) (by assumption) ?_
      try simp only [Act.put, List.setIfInBounds_toArray, List.set_cons_zero, List.set_cons_succ]
      refine wpAnyH_take (i := 9) (oi := { dst := some 34, op := Op.fieldAddr 56 (Operand.tmp 33) 1, type := 0, pos := "ref.go:163", after := #[{ on := 8, ground := Ground.data }], guard := none }) rfl (by kernel_rfl) (by kernel_rfl) (by kernel_rfl) (fun _ _ _ h => h) (Or.inl ⟨by kernel_rfl, fun wS hSw => ex_fieldP fE1 (.tmp 33) rfl b (o + j * 34) rfl (o + j * 34 + 1) rfl⟩) (by assumption) ?_
      try simp only [Act.put, List.setIfInBounds_toArray, List.set_cons_zero, List.set_cons_succ]
      refine wpAnyH_take (i := 10) (oi := { dst := some 35, op := Op.load 3 (Operand.tmp 34), type := 3, pos := "ref.go:163", after := #[{ on := 9, ground := Ground.data }], guard := none }) (v := ?_) rfl (by kernel_rfl) (by kernel_rfl) (by kernel_rfl) (fun _ _ _ h => h) (Or.inl ⟨by kernel_rfl, ?_⟩) (by assumption) ?_
      rotate_left 1
      · (intro wS hSw; (try dsimp only at hSw); go_simp; try with_reducible rfl)
      try simp only [Act.put, List.setIfInBounds_toArray, List.set_cons_zero, List.set_cons_succ]
      refine wpAnyH_take (i := 11) (oi := { dst := some 36, op := Op.build 58 #[(0, Operand.tmp 30), (1, Operand.tmp 35)], type := 58, pos := "ref.go:163", after := #[{ on := 5, ground := Ground.data }, { on := 10, ground := Ground.data }], guard := none }) rfl (by kernel_rfl) (by kernel_rfl) (by kernel_rfl) (fun _ _ _ h => h) (Or.inl ⟨by kernel_rfl, fun wS hSw => ex_child (.tmp 30) (.tmp 35) rfl (es j).kind (es j).id rfl rfl⟩) (by assumption) ?_
      try simp only [Act.put, List.setIfInBounds_toArray, List.set_cons_zero, List.set_cons_succ]
      refine wpAnyH_ready (rs := [12]) (by kernel_rfl) (by simp) ?_
      refine AllReadyH.cons (o := { dst := some 37, op := Op.buildSlice 40 1 #[(0, Operand.tmp 36)], type := 40, pos := "ref.go:163", after := #[{ on := 11, ground := Ground.data }], guard := none }) rfl (fun K hK => ?_) AllReadyH.nil
      refine step_val rfl _ _ (ex_bslice 40 58 (.tmp 36) rfl 33 (hv (es j).id (es j).kind) rfl tChildren zChild (by decide) (by decide)) ?_
      refine hK.out _ _ (SA.out) (fun _ => ?_)
      clear hK K
      try simp only [Act.put, List.setIfInBounds_toArray, List.set_cons_zero, List.set_cons_succ]
      refine wpAnyH_ready (rs := [13]) (by kernel_rfl) (by simp) ?_
      refine AllReadyH.cons (o := { dst := some 38, op := Op.call { callee := Callee.builtin Builtin.append, args := #[Operand.tmp 25, Operand.tmp 37], argTypes := #[40, 40] }, type := 40, pos := "ref.go:163", after := #[{ on := 0, ground := Ground.data }, { on := 12, ground := Ground.data }], guard := none }) rfl (fun K hK => ?_) AllReadyH.nil
      refine step_append_run rfl (.tmp 25) (.tmp 37) 40 40 rfl _ _ _ _ rfl rfl hap ?_
      refine hK.out _ _ (S7) (fun _ => ?_)
      clear hK K
      try simp only [Act.put, List.setIfInBounds_toArray, List.set_cons_zero, List.set_cons_succ]
      clear hap
      refine wpAnyH_take (i := 14) (oi := { dst := some 3, op := Op.assign (Operand.tmp 38), type := 40, pos := "ref.go:163", after := #[{ on := 13, ground := Ground.data }, { on := 13, ground := Ground.chain }, { on := 0, ground := Ground.phase }, { on := 1, ground := Ground.phase }, { on := 2, ground := Ground.phase }, { on := 3, ground := Ground.phase }, { on := 4, ground := Ground.phase }, { on := 5, ground := Ground.phase }, { on := 6, ground := Ground.phase }, { on := 7, ground := Ground.phase }, { on := 8, ground := Ground.phase }, { on := 9, ground := Ground.phase }, { on := 10, ground := Ground.phase }, { on := 11, ground := Ground.phase }, { on := 12, ground := Ground.phase }, { on := 13, ground := Ground.phase }], guard := none }) (v := ?_) rfl (by kernel_rfl) (by kernel_rfl) (by kernel_rfl) (fun _ _ _ h => h) (Or.inl ⟨by kernel_rfl, ?_⟩) (by assumption) ?_
      rotate_left 1
      · (intro wS hSw; (try dsimp only at hSw); go_simp; try with_reducible rfl)
      try simp only [Act.put, List.setIfInBounds_toArray, List.set_cons_zero, List.set_cons_succ]
      refine wpAnyH_done (by kernel_rfl) ?_ _
      refine NoPanic.normal ?_
      clear S0 SA S7
      go_wp2
      go_roundw
      case rel => exact ⟨j + 1, _, HLT.out, by go_num, rfl, HN⟩
      case measure => simp [intOf]; have := HLT.out; omega
    · have ej : j = n := by omega
      have yj : (n : Int) ≤ (j : Int) := by omega
      subst ej
      have c0 : wr.cell? ⟨w.heap.size, 0, none⟩ = some (.int .i64 2) := (hS.out.keep.blk BO2.out.lt BO2.out).cell 0 (by omega)
      have L5 : Hid (Below w.heap.size w wr) := L2'.out.trans ((hS.out.keep.below (Nat.le_refl _)).mono L2'.out.size)
      clear hlt H0
      go_wp2
      go_ret
      exact ⟨_, kidT es, j, rfl, owns_row hS.out.row, ⟨fun h => absurd OK.out.1 h, fun _ => ⟨fun h => by omega, fun _ => ⟨es, j, IT'.out, rfl, fun i _ => rfl⟩, fun h => by omega⟩⟩, L5.out⟩
end Go.Proofs.YtlbclfponongbaaGreatDoor
/- What a commit names: the reference; what there is, of one kind. -/
namespace Go.Proofs.YtlbclfponongbaaGreatDoor
open Go.RowKit Classical
def kidC (c : Com) (i : Nat) : (Nat → UInt8) × Int := if i = 0 then (c.tree, 2) else (c.par (i - 1), 3)
set_option maxHeartbeats 4000000 in
set_option maxRecDepth 100000 in
theorem qchildren_three (l : List UInt8) (w : World) (ho : objOk 3 l) :
    Calls Tryz.prog 16 #[.agg #[.int .i64 3, .string (bs l)]] w fun e w' => ∃ v H m, e = .returned v ∧ Row w' v 33 (hc H) m ∧ Kids 3 l H m ∧ Below w.heap.size w w' := by
  have hl := ho.1
  have ht : isCom l := by
    rcases ho.2 with h | ⟨h, _⟩ | ⟨_, h⟩
    · omega
    · omega
    · exact h
  have L0 : Hid (Below w.heap.size w (w.alloc (.cells #[.int .i64 3, .string (bs l)] 23))) := (Below.refl _ _).alloc (Nat.le_refl _) _
  have BO : Hid (Blk (w.alloc (.cells #[.int .i64 3, .string (bs l)] 23)) w.heap.size 23 2 (ov 3 l)) := Blk.newAt _ (heap_alloc_new _ _) rfl
  have c0 : (w.alloc (.cells #[.int .i64 3, .string (bs l)] 23)).cell? ⟨w.heap.size, 0, none⟩ = some (.int .i64 3) := BO.out.cell 0 (by omega)
  have c1 : (w.alloc (.cells #[.int .i64 3, .string (bs l)] 23)).cell? ⟨w.heap.size, 1, none⟩ = some (.string (bs l)) := BO.out.cell 1 (by omega)
  have HE := Lib.hid (fun W => qcommit_any l W (by omega))
  rw [decide_eq_true ht] at HE
  have OK := Lib.hid (And.intro ho ht)
  clear ho ht hl
  go_enter Tryz.func16, Tryz.ntmps16
  go_wp2_with fail
  refine (HE.out _).mono ?_
  rintro e w2 ⟨c, v, rfl, R2, IT, -, L2⟩
  have IT' := Lib.hid (IT OK.out.2)
  have o1 := Lib.hid (qrow_one R2)
  have L2' := Lib.hid (L0.out.trans (L2.mono L0.out.size))
  have A3 := (Below.refl w2.heap.size w2).alloc (Nat.le_refl _) (.cells (arr 34 (cv c.tree v c.text)) 37)
  have L3 := Lib.hid (L2'.out.trans (A3.mono L2'.out.size))
  have R3 := R2.below A3
  have BC3 : Hid (Blk (w2.alloc (.cells (arr 34 (cv c.tree v c.text)) 37)) w2.heap.size 37 34 (cv c.tree v c.text)) := Blk.newAt _ (heap_alloc_new _ _) rfl
  clear IT L2 L0 BO HE c0 c1 A3 R2 L2'
  go_upto_region 10 with (refine wpList_store_blk rfl 37 (.tmp 7) (.tmp 46) rfl w2.heap.size 34 (cv c.tree v c.text) zc rfl rfl 37 (Blk.newAt _ (heap_alloc_new _ _) rfl) szCommit (fun i _ => cv_one _ _ o1.out _ i) ?_)
  rw [World.setRow_alloc_new]
  generalize w2.alloc (.cells (arr 34 (cv c.tree v c.text)) 37) = w3 at L3 R3 BC3 ⊢
  generalize w2.heap.size = cb at BC3 ⊢
  obtain ⟨ad, cap, rfl, ha⟩ := row_addr R3
  have HA := Lib.hid ha
  have NN : Hid (c.n ≤ 4) := IT'.out.1.1
  have H0 : HS w3.heap.size w3 (kidC c) 0 (.slice none 0 0) w3 := ⟨Keep.refl _ _, by rw [Nat.zero_mul]; exact World.ownsRow_nil _ _ _ _, Nat.le_refl _⟩
  obtain ⟨g, cap4, w7, hap, hN⟩ := H0.next c.tree 2 rfl (by omega)
  have HN := Lib.hid hN
  clear hN H0 ha R3
  refine wp_region_lit ?_
  refine wpList_valS (v := ?_) (by kernel_rfl) ?_ ?_
  rotate_left 1
  · (go_simp; try with_reducible rfl)
  try simp only [Act.put, List.setIfInBounds_toArray, List.set_cons_zero, List.set_cons_succ]
  refine wpList_valG (by kernel_rfl) (ex_fieldP fC0 (.tmp 7) rfl cb 0 rfl 0 rfl) ?_
  try simp only [Act.put, List.setIfInBounds_toArray, List.set_cons_zero, List.set_cons_succ]
  refine wpList_valG (by kernel_rfl) (ex_load 29 (.tmp 49) rfl cb 0 32 (bv c.tree) rfl Tryz.underlying29 rfl sz30 (BC3.out.at0.part 0 32 _ (by omega) (fun i hi => by unfold cv; rw [if_pos (by omega)]; rw [Nat.zero_add]; rfl))) ?_
  try simp only [Act.put, List.setIfInBounds_toArray, List.set_cons_zero, List.set_cons_succ]
  refine wpList_valG (by kernel_rfl) (ex_child (.tmp 50) (.const (.int .i64 2)) rfl 2 c.tree rfl rfl) ?_
  try simp only [Act.put, List.setIfInBounds_toArray, List.set_cons_zero, List.set_cons_succ]
  refine wpList_valG (by kernel_rfl) (ex_bslice 40 58 (.tmp 51) rfl 33 (hv c.tree 2) rfl tChildren zChild (by decide) (by decide)) ?_
  try simp only [Act.put, List.setIfInBounds_toArray, List.set_cons_zero, List.set_cons_succ]
  refine wpList_append_run rfl (.tmp 48) (.tmp 52) 40 40 rfl _ _ _ _ rfl rfl hap ?_
  try simp only [Act.put, List.setIfInBounds_toArray, List.set_cons_zero, List.set_cons_succ]
  refine wpList_valS (v := ?_) (by kernel_rfl) ?_ ?_
  rotate_left 1
  · (go_simp; try with_reducible rfl)
  try simp only [Act.put, List.setIfInBounds_toArray, List.set_cons_zero, List.set_cons_succ]
  refine wpList_nil ?_
  clear hap
  go_wp2
  go_loopw [3, 9] (fun u i wr => ∃ (q : Nat) (x : Value), q ≤ c.n ∧ i = .int .i64 q ∧ x = u ∧ Hid (HS w3.heap.size w3 (kidC c) (1 + q) x wr)) (fun _ i _ => c.n - (intOf i).toNat)
  case atStart => exact ⟨0, _, Nat.zero_le _, rfl, rfl, HN⟩
  case round =>
    obtain ⟨q, x, hq, rfl, rfl, hS⟩ := hrel
    have d32 : wr.cell? ⟨cb, 32, none⟩ = some (.slice ad c.n cap) := (hS.out.keep.blk BC3.out.lt BC3.out).cell 32 (by omega)
    have zj : (0 : Int) ≤ (q : Int) := by omega
    by_cases hlt : q < c.n
    · obtain ⟨b, o, rfl, hb4, hc0⟩ := HA.out (by omega)
      have ck := (hc0.keep hS.out.keep hb4).idk q hlt
      have yj : (q : Int) < (c.n : Int) := by omega
      have HLT := Lib.hid hlt
      have C4 := NN.out
      obtain ⟨g2, cap5, w8, hap, hN2⟩ := hS.out.next (c.par q) 3 (by unfold kidC; rw [if_neg (by omega), show 1 + q - 1 = q by omega]) (by omega)
      have HN2 := Lib.hid hN2
      clear hN2 hc0 hb4 hlt
      go_upto_region 14 with fail
      refine wp_region_lit ?_
      refine wpList_valS (v := ?_) (by kernel_rfl) ?_ ?_
      rotate_left 1
      · (go_simp; try with_reducible rfl)
      try simp only [Act.put, List.setIfInBounds_toArray, List.set_cons_zero, List.set_cons_succ]
      refine wpList_valG (by kernel_rfl) (ex_fieldP fC1 (.tmp 7) rfl cb 0 rfl 32 rfl) ?_
      try simp only [Act.put, List.setIfInBounds_toArray, List.set_cons_zero, List.set_cons_succ]
      refine wpList_valS (v := ?_) (by kernel_rfl) ?_ ?_
      rotate_left 1
      · (go_simp; try with_reducible rfl)
      try simp only [Act.put, List.setIfInBounds_toArray, List.set_cons_zero, List.set_cons_succ]
      refine wpList_valS (v := ?_) (by kernel_rfl) ?_ ?_
      rotate_left 1
      · (go_simp; try with_reducible rfl)
      try simp only [Act.put, List.setIfInBounds_toArray, List.set_cons_zero, List.set_cons_succ]
      refine wpList_valG (by kernel_rfl) (ex_index 35 29 (.tmp 63) (.tmp 64) rfl b o q c.n cap 32 rfl rfl tIds sz30 HLT.out) ?_
      try simp only [Act.put, List.setIfInBounds_toArray, List.set_cons_zero, List.set_cons_succ]
      refine wpList_valG (by kernel_rfl) (ex_load 29 (.tmp 65) rfl b (o + q * 32) 32 (bv (c.par q)) rfl Tryz.underlying29 rfl sz30 ck) ?_
      try simp only [Act.put, List.setIfInBounds_toArray, List.set_cons_zero, List.set_cons_succ]
      refine wpList_valG (by kernel_rfl) (ex_child (.tmp 66) (.const (.int .i64 3)) rfl 3 (c.par q) rfl rfl) ?_
      try simp only [Act.put, List.setIfInBounds_toArray, List.set_cons_zero, List.set_cons_succ]
      refine wpList_valG (by kernel_rfl) (ex_bslice 40 58 (.tmp 67) rfl 33 (hv (c.par q) 3) rfl tChildren zChild (by decide) (by decide)) ?_
      try simp only [Act.put, List.setIfInBounds_toArray, List.set_cons_zero, List.set_cons_succ]
      refine wpList_append_run rfl (.tmp 61) (.tmp 68) 40 40 rfl _ _ _ _ rfl rfl hap ?_
      try simp only [Act.put, List.setIfInBounds_toArray, List.set_cons_zero, List.set_cons_succ]
      refine wpList_valS (v := ?_) (by kernel_rfl) ?_ ?_
      rotate_left 1
      · (go_simp; try with_reducible rfl)
      try simp only [Act.put, List.setIfInBounds_toArray, List.set_cons_zero, List.set_cons_succ]
      refine wpList_nil ?_
      clear hap hS ck
      go_wp2
      go_roundw
      case rel => exact ⟨q + 1, _, HLT.out, by go_num, rfl, HN2⟩
      case measure => simp [intOf]; have := HLT.out; omega
    · have ej : q = c.n := by omega
      have yj : (c.n : Int) ≤ (q : Int) := by omega
      have L5 : Hid (Below w.heap.size w wr) := L3.out.trans ((hS.out.keep.below (Nat.le_refl _)).mono L3.out.size)
      clear hlt HN
      go_wp2
      go_ret
      exact ⟨_, kidC c, 1 + q, rfl, owns_row hS.out.row, ⟨fun h => absurd OK.out.1 h, fun _ => ⟨fun h => by omega, fun h => by omega, fun _ => ⟨c, IT'.out, by omega, rfl, fun i _ => by unfold kidC; rw [if_neg (by omega), show i + 1 - 1 = i by omega]⟩⟩⟩, L5.out⟩
theorem qchildren_any (k : Int) (l : List UInt8) (w : World) (ho : objOk k l) :
    Calls Tryz.prog 16 #[.agg #[.int .i64 k, .string (bs l)]] w fun e w' => ∃ v H m, e = .returned v ∧ Row w' v 33 (hc H) m ∧ Kids k l H m ∧ Below w.heap.size w w' := by
  by_cases h1 : k = 1
  · subst h1
    exact (qchildren_one l w).mono fun e w' h => ⟨_, fun _ => (fun _ => 0, 0), 0, h.1, Or.inl ⟨none, 0, rfl, rfl⟩, ⟨fun _ => rfl, fun _ => ⟨fun _ => rfl, fun g => by omega, fun g => by omega⟩⟩, h.2⟩
  · by_cases h2 : k = 2
    · subst h2; exact qchildren_two l w ho
    · have h3 : k = 3 := by
        rcases ho.2 with h | ⟨h, _⟩ | ⟨h, _⟩
        · exact absurd h h1
        · exact absurd h h2
        · exact h
      subst h3; exact qchildren_three l w ho
end Go.Proofs.YtlbclfponongbaaGreatDoor
