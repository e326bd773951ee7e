import Derived.Test.YtnmjcpoobabjgaaGreatDoorEDm
import Derived.Test.YtnmjcpoobabjgaaGreatDoorGBm
import Derived.Test.YtnmjcpoobabjgaaGreatDoorHF
import Derived.Test.YtnmjcpoobabjgaaGreatDoorO23m
import Derived.Test.YtnmjcpoobabjgaaGreatDoorDW6m
import Derived.Deep.QuietTactic
import Derived.BigQuiet
import Derived.Test.YtnmjcpoobabjgaaGreatDoorO3m
import Derived.Laws.StructEq
import Derived.StillTailTactics
set_option linter.unusedVariables false
set_option linter.unusedSimpArgs false
/- Objects and ids in rows; an opened pack in the heap; what is asked of it. -/
namespace Go.Proofs.YtnmjcpoobabjgaaGreatDoor
set_option maxRecDepth 100000
open Go.RowKit Classical
def zo : Int × List UInt8 := (0, [])
def zf : Nat → UInt8 := fun _ => 0
def oid (o : Int × List UInt8) : Nat → UInt8 := idD o.1 o.2
def gO (x : Int × List UInt8) (j : Nat) : Value := ov x.1 x.2 j
theorem gO_one (x : Int × List UInt8) (j : Nat) : (gO x j).oneCell' = true := by unfold gO ov; split <;> rfl
def RowO (w : World) (v : Value) (l : List (Int × List UInt8)) : Prop := RowG 2 gO zo w v l
def OwnO (w : World) (B : Nat) (v : Value) (l : List (Int × List UInt8)) : Prop := OwnG 43 2 gO zo w B v l
theorem tOs : Tryz.prog.underlying 29 = some (.slice 43) := by kernel_rfl
theorem iOs : (Tryz.prog.info? 43).map (fun i => (i.zero, i.size, i.bytes)) = some (some (.agg #[.int .i64 0, .string ⟨#[]⟩]), 2, 24) := by kernel_rfl
theorem app_o {B : Nat} {w : World} {v : Value} {l : List (Int × List UInt8)} (x : Int × List UInt8) (h : OwnO w B v l) (hB : B ≤ w.heap.size) (hn : l.length + 1 ≤ 100000) :
    ∃ b cap w', (Builtin.append_ #[29, 29] 29 #[v, .slice (some ⟨w.heap.size, 0, none⟩) 1 1]).run Tryz.prog (w.alloc (.cells #[.int .i64 x.1, .string (bs x.2)] 43)) = .ok (.slice (some ⟨b, 0, none⟩) (l.length + 1) cap) w' ∧
      OwnO w' B (.slice (some ⟨b, 0, none⟩) (l.length + 1) cap) (l ++ [x]) ∧ Below B w w' := app_g tOs iOs rfl (by decide) (by decide) gO_one x _ rfl h hB hn
theorem RowO.cells {w : World} {v : Value} {l : List (Int × List UInt8)} (h : RowO w v l) : ∃ ad cap, v = .slice ad l.length cap ∧ ∀ k, k < l.length → ∃ b o, ad = some ⟨b, o, none⟩ ∧ b < w.heap.size ∧ w.cell? ⟨b, o + k * 2, none⟩ = some (.int .i64 (l.getD k zo).1) ∧ w.cell? ⟨b, o + k * 2 + 1, none⟩ = some (.string (bs (l.getD k zo).2)) := by
  obtain ⟨ad, cap, e, hc⟩ := RowG.cells h
  refine ⟨ad, cap, e, fun k hk => ?_⟩
  obtain ⟨_, b, o, ha, hb, hj⟩ := hc k hk
  exact ⟨b, o, ha, hb, hj 0 (by decide), hj 1 (by decide)⟩
def gD (f : Nat → UInt8) (j : Nat) : Value := bv f j
def RowD (w : World) (v : Value) (l : List (Nat → UInt8)) : Prop := RowG 32 gD zf w v l
def OwnD (w : World) (B : Nat) (v : Value) (l : List (Nat → UInt8)) : Prop := OwnG 37 32 gD zf w B v l
theorem RowD.cells {w : World} {v : Value} {l : List (Nat → UInt8)} (h : RowD w v l) : ∃ ad cap, v = .slice ad l.length cap ∧ ∀ k, k < l.length → ∃ b o, ad = some ⟨b, o, none⟩ ∧ b < w.heap.size ∧ At w b (o + k * 32) 32 (bv (l.getD k zf)) := by
  obtain ⟨ad, cap, e, hc⟩ := RowG.cells h
  refine ⟨ad, cap, e, fun k hk => ?_⟩
  obtain ⟨_, b, o, ha, hb, hj⟩ := hc k hk
  exact ⟨b, o, ha, hb, fun j hj2 => hj j hj2⟩
/- an opened pack -/
structure PackAt (w : World) (g : Nat) (l : List Pt) (S : List Nat) (os : List (Int × List UInt8)) : Prop where
  there : ∃ vp vs vo vd m, w.heap[g]? = some (.cells #[vp, vs, vo, vd, .map (some m)] 86 (0, 0)) ∧ RowP w vp l ∧ RowN w vs S ∧ RowO w vo os ∧ RowD w vd (os.map oid) ∧ IdMap w m (os.map oid)
theorem PackAt.below {w w' : World} {g : Nat} {l : List Pt} {S : List Nat} {os : List (Int × List UInt8)} (h : PackAt w g l S os) (hb : Below w.heap.size w w') : PackAt w' g l S os := by
  obtain ⟨vp, vs, vo, vd, m, h1, h2, h3, h4, h5, h6⟩ := h.there
  exact ⟨vp, vs, vo, vd, m, by rw [hb.block g (lt_of_block h1)]; exact h1, RowG.below h2 hb, RowG.below h3 hb, RowG.below h4 hb, RowG.below h5 hb, h6.at_ (hb.block m h6.lt)⟩
theorem plen_any {w : World} {g : Nat} {l : List Pt} {S : List Nat} {os : List (Int × List UInt8)} (h : PackAt w g l S os) :
    Calls Tryz.prog 15 #[.pointer (some ⟨g, 0, none⟩)] w fun e w' => e = .returned (.int .i64 (l.length : Int)) ∧ w = w' := by
  obtain ⟨vp, vs, vo, vd, m, h1, h2, -⟩ := h.there
  obtain ⟨ad, cap, rfl⟩ := RowG.len h2
  have c0 := cell_of_row _ _ 0 _ _ _ h1
  clear h1 h2 h
  go_enter Tryz.func15, Tryz.ntmps15
  go_wp2
  go_ret
  exact ⟨rfl, rfl⟩
theorem plen_nil (w : World) : Calls Tryz.prog 15 #[.pointer none] w fun e w' => e = .returned (.int .i64 0) ∧ w = w' := by
  go_enter Tryz.func15, Tryz.ntmps15
  go_wp2
  go_ret
  exact ⟨rfl, rfl⟩
theorem phas_any {w : World} {g : Nat} {l : List Pt} {S : List Nat} {os : List (Int × List UInt8)} (i : Int) (h : PackAt w g l S os) :
    Calls Tryz.prog 41 #[.pointer (some ⟨g, 0, none⟩), .int .i64 i] w fun e w' => e = .returned (.bool (decide (0 ≤ i ∧ i < l.length))) ∧ w = w' := by
  have C := Lib.hid (fun (_ : Unit) => plen_any h)
  by_cases c : 0 ≤ i
  · obtain ⟨q, hq⟩ : ∃ q, q = decide (i < (l.length : Int)) := ⟨_, rfl⟩
    have e : decide (0 ≤ i ∧ i < l.length) = q := by rw [hq, decide_eq_decide]; exact ⟨fun h => h.2, fun h => ⟨c, h⟩⟩
    rw [e]
    clear e h
    go_enter Tryz.func41, Tryz.ntmps41
    go_wp2_with fail
    refine (C.out ()).mono ?_
    rintro e w1 ⟨rfl, rfl⟩
    go_wp2
    go_ret
    exact ⟨by rw [hq]; rfl, rfl⟩
  · have e : decide (0 ≤ i ∧ i < l.length) = false := by simp; omega
    rw [e]
    have c' : i < 0 := by omega
    clear e h c C
    go_enter Tryz.func41, Tryz.ntmps41
    go_wp2
    go_ret
    exact ⟨rfl, rfl⟩
theorem phas_nil {w : World} (i : Int) : Calls Tryz.prog 41 #[.pointer none, .int .i64 i] w fun e w' => e = .returned (.bool false) ∧ w = w' := by
  have C := Lib.hid (fun (_ : Unit) => plen_nil w)
  by_cases c : 0 ≤ i
  · have e : decide (i < 0) = false := by simp; omega
    go_enter Tryz.func41, Tryz.ntmps41
    go_wp2_with fail
    refine (C.out ()).mono ?_
    rintro e w1 ⟨rfl, rfl⟩
    go_wp2
    go_ret
    first | exact ⟨rfl, rfl⟩ | exact ⟨by rw [e], rfl⟩ | exact ⟨by simp; omega, rfl⟩
  · have c' : i < 0 := by omega
    clear c C
    go_enter Tryz.func41, Tryz.ntmps41
    go_wp2
    go_ret
    exact ⟨rfl, rfl⟩
/- what is asked by an id: its first place, or -1 -/
noncomputable def fnd (f : Nat → UInt8) (L : List (Nat → UInt8)) : Int := match idx f L 0 with | some j => (j : Int) | none => -1
set_option maxHeartbeats 1000000 in
theorem pfind_any {w : World} {g : Nat} {m : Nat} {vp vs vo vd : Value} {L : List (Nat → UInt8)} (f : Nat → UInt8) (h1 : w.heap[g]? = some (.cells #[vp, vs, vo, vd, .map (some m)] 86 (0, 0))) (h6 : IdMap w m L) :
    Calls Tryz.prog 19 #[.pointer (some ⟨g, 0, none⟩), .agg (arr 32 (bv f))] w fun e w' => e = .returned (.int .i64 (fnd f L)) ∧ Below w.heap.size w w' := by
  have B1 : Hid (Blk (w.alloc (.cells (arr 32 (bv f)) 37)) w.heap.size 37 32 (bv f)) := Blk.newAt _ (heap_alloc_new _ _) rfl
  have hb : Below w.heap.size w (w.alloc (.cells (arr 32 (bv f)) 37)) := (Below.refl _ _).alloc (Nat.le_refl _) _
  have L1 := Lib.hid hb
  have h1' : (w.alloc (.cells (arr 32 (bv f)) 37)).heap[g]? = some (.cells #[vp, vs, vo, vd, .map (some m)] 86 (0, 0)) := by rw [hb.block g (lt_of_block h1)]; exact h1
  have h6' : Hid (IdMap (w.alloc (.cells (arr 32 (bv f)) 37)) m L) := h6.at_ (hb.block m h6.lt)
  have c4 : (w.alloc (.cells (arr 32 (bv f)) 37)).cell? ⟨g, 4, none⟩ = some (.map (some m)) := cell_of_row _ _ 4 _ _ _ h1'
  have C4 := Lib.hid c4
  obtain ⟨R, hR⟩ : ∃ R, R = fnd f L := ⟨_, rfl⟩
  rw [← hR]
  have HR := Lib.hid hR
  clear h1 h6 hb h1' hR c4
  go_enter Tryz.func19, Tryz.ntmps19
  go_upto_region 3 with fail
  change Code.wp _ _ _ _ (w.alloc (.cells (arr 32 (bv f)) 37))
  generalize w.alloc (.cells (arr 32 (bv f)) 37) = w1 at B1 L1 h6' C4 ⊢
  have b0 : Below w1.heap.size w1 w1.drew := (Below.refl _ _).drew
  have S0 : w1.drew.cell? ⟨g, 4, none⟩ = some (.map (some m)) ∧ Blk w1.drew w.heap.size 37 32 (bv f) ∧ IdMap w1.drew m L := ⟨C4.out, B1.out, h6'.out⟩
  have hi : idx f L 0 = none ∨ ∃ j, idx f L 0 = some j := by cases idx f L 0 with | none => exact Or.inl rfl | some j => exact Or.inr ⟨j, rfl⟩
  rcases hi with hi | ⟨j, hi⟩
  · have HF : Hid (R = -1) := by show R = _; rw [HR.out]; unfold fnd; rw [hi]
    refine wp_region_noPanic ?_
    refine wp_region_held_drew (S := (fun W => W.cell? ⟨g, 4, none⟩ = some (.map (some m)) ∧ Blk W w.heap.size 37 32 (bv f) ∧ IdMap W m L)) (by kernel_rfl) S0 (fun hHeld => ?_)
    refine wpAnyH_take (i := 0) (oi := ⟨some 10, .move (.tmp 0), 38, "pack.go:98", #[], none⟩) (v := ?_) rfl (by kernel_rfl) (by kernel_rfl) (by kernel_rfl) (fun _ _ _ h => h) (Or.inl ⟨by kernel_rfl, ?_⟩) (by assumption) ?_
    rotate_left 1
    · (intro wS hSw; (try dsimp only at hSw); go_simp; try with_reducible rfl)
    try simp only [Act.put, tA, tZ, tS]
    refine wpAnyH_take (i := 1) (oi := ⟨some 11, .nilCheck (.tmp 10), 0, "pack.go:98", #[⟨0, .data⟩], none⟩) (v := ?_) rfl (by kernel_rfl) (by kernel_rfl) (by kernel_rfl) (fun _ _ _ h => h) (Or.inl ⟨by kernel_rfl, ?_⟩) (by assumption) ?_
    rotate_left 1
    · (intro wS hSw; (try dsimp only at hSw); go_simp; try with_reducible rfl)
    try simp only [Act.put, tA, tZ, tS]
    refine wpAnyH_take (i := 2) (oi := ⟨some 12, .fieldAddr 86 (.tmp 11) 4, 0, "pack.go:98", #[⟨1, .data⟩], none⟩) (v := ?_) rfl (by kernel_rfl) (by kernel_rfl) (by kernel_rfl) (fun _ _ _ h => h) (Or.inl ⟨by kernel_rfl, ?_⟩) (by assumption) ?_
    rotate_left 1
    · (intro wS hSw; (try dsimp only at hSw); go_simp; try with_reducible rfl)
    try simp only [Act.put, tA, tZ, tS]
    refine wpAnyH_take (i := 3) (oi := ⟨some 13, .load 84 (.tmp 12), 84, "pack.go:98", #[⟨2, .data⟩], none⟩) (v := ?_) rfl (by kernel_rfl) (by kernel_rfl) (by kernel_rfl) (fun _ _ _ h => h) (Or.inl ⟨by kernel_rfl, ?_⟩) (by assumption) ?_
    rotate_left 1
    · (intro wS hSw; (try dsimp only at hSw); go_simp; try with_reducible rfl)
    try simp only [Act.put, tA, tZ, tS]
    refine wpAnyH_take (i := 4) (oi := ⟨some 14, .load 37 (.tmp 3), 37, "pack.go:98", #[], none⟩) rfl (by kernel_rfl) (by kernel_rfl) (by kernel_rfl) (fun _ _ _ h => h) (Or.inl ⟨by kernel_rfl, fun wS hSw => ex_load 37 (.tmp 3) rfl w.heap.size 0 32 (bv f) rfl ty30 rfl sz30 hSw.2.1.at0⟩) (by assumption) ?_
    try simp only [Act.put, tA, tZ, tS]
    refine wpAnyH_take (i := 5) (oi := ⟨some 15, .lookup 84 (.tmp 13) (.tmp 14) true, 91, "pack.go:98", #[⟨3, .data⟩, ⟨4, .data⟩], none⟩) rfl (by kernel_rfl) (by kernel_rfl) (by kernel_rfl) (fun _ _ _ h => h) (Or.inl ⟨by kernel_rfl, fun wS hSw => ex_lookup2 84 (.tmp 13) (.tmp 14) rfl _ _ _ rfl rfl (hSw.2.2.look f)⟩) (by assumption) ?_
    try simp only [Act.put, tA, tZ, tS]
    rw [hi]
    unfold idxV
    refine wpAnyH_take (i := 6) (oi := ⟨some 9, .move (.tmp 15), 91, "pack.go:98", #[⟨5, .data⟩], none⟩) (v := ?_) rfl (by kernel_rfl) (by kernel_rfl) (by kernel_rfl) (fun _ _ _ h => h) (Or.inl ⟨by kernel_rfl, ?_⟩) (by assumption) ?_
    rotate_left 1
    · (intro wS hSw; (try dsimp only at hSw); go_simp; try with_reducible rfl)
    try simp only [Act.put, tA, tZ, tS]
    refine wpAnyH_take (i := 7) (oi := ⟨some 16, .extract (.tmp 9) 0, 3, "pack.go:98", #[⟨6, .data⟩], none⟩) (v := ?_) rfl (by kernel_rfl) (by kernel_rfl) (by kernel_rfl) (fun _ _ _ h => h) (Or.inl ⟨by kernel_rfl, ?_⟩) (by assumption) ?_
    rotate_left 1
    · (intro wS hSw; (try dsimp only at hSw); go_simp; try with_reducible rfl)
    try simp only [Act.put, tA, tZ, tS]
    refine wpAnyH_take (i := 8) (oi := ⟨some 17, .extract (.tmp 9) 1, 4, "pack.go:98", #[⟨6, .data⟩, { on := 9, ground := Ground.gcOnly Departure.lateStores }], none⟩) (v := ?_) rfl (by kernel_rfl) (by kernel_rfl) (by kernel_rfl) (fun _ _ _ h => h) (Or.inl ⟨by kernel_rfl, ?_⟩) (by assumption) ?_
    rotate_left 1
    · (intro wS hSw; (try dsimp only at hSw); go_simp; try with_reducible rfl)
    try simp only [Act.put, tA, tZ, tS]
    refine wpAnyH_take (i := 9) (oi := ⟨some 5, .assign (.tmp 16), 3, "pack.go:98", #[⟨7, .data⟩, ⟨0, .phase⟩, ⟨1, .phase⟩, ⟨2, .phase⟩, ⟨3, .phase⟩, ⟨4, .phase⟩, ⟨5, .phase⟩, ⟨6, .phase⟩, ⟨7, .phase⟩, { on := 8, ground := Ground.textOnly Departure.lateStores }], none⟩) (v := ?_) rfl (by kernel_rfl) (by kernel_rfl) (by kernel_rfl) (fun _ _ _ h => h) (Or.inl ⟨by kernel_rfl, ?_⟩) (by assumption) ?_
    rotate_left 1
    · (intro wS hSw; (try dsimp only at hSw); go_simp; try with_reducible rfl)
    try simp only [Act.put, tA, tZ, tS]
    refine wpAnyH_take (i := 10) (oi := ⟨some 6, .assign (.tmp 17), 4, "pack.go:98", #[⟨8, .data⟩, ⟨9, .chain⟩, ⟨0, .phase⟩, ⟨1, .phase⟩, ⟨2, .phase⟩, ⟨3, .phase⟩, ⟨4, .phase⟩, ⟨5, .phase⟩, ⟨6, .phase⟩, ⟨7, .phase⟩, ⟨8, .phase⟩, ⟨9, .phase⟩], none⟩) (v := ?_) rfl (by kernel_rfl) (by kernel_rfl) (by kernel_rfl) (fun _ _ _ h => h) (Or.inl ⟨by kernel_rfl, ?_⟩) (by assumption) ?_
    rotate_left 1
    · (intro wS hSw; (try dsimp only at hSw); go_simp; try with_reducible rfl)
    try simp only [Act.put, tA, tZ, tS]
    refine wpAnyH_done (by kernel_rfl) ?_ _
    refine NoPanic.normal ?_
    go_wp2
    go_ret
    exact ⟨by rw [HF.out]; rfl, L1.out.drew⟩
  · have HF : Hid (R = (j : Int)) := by show R = _; rw [HR.out]; unfold fnd; rw [hi]
    refine wp_region_noPanic ?_
    refine wp_region_held_drew (S := (fun W => W.cell? ⟨g, 4, none⟩ = some (.map (some m)) ∧ Blk W w.heap.size 37 32 (bv f) ∧ IdMap W m L)) (by kernel_rfl) S0 (fun hHeld => ?_)
    refine wpAnyH_take (i := 0) (oi := ⟨some 10, .move (.tmp 0), 38, "pack.go:98", #[], none⟩) (v := ?_) rfl (by kernel_rfl) (by kernel_rfl) (by kernel_rfl) (fun _ _ _ h => h) (Or.inl ⟨by kernel_rfl, ?_⟩) (by assumption) ?_
    rotate_left 1
    · (intro wS hSw; (try dsimp only at hSw); go_simp; try with_reducible rfl)
    try simp only [Act.put, tA, tZ, tS]
    refine wpAnyH_take (i := 1) (oi := ⟨some 11, .nilCheck (.tmp 10), 0, "pack.go:98", #[⟨0, .data⟩], none⟩) (v := ?_) rfl (by kernel_rfl) (by kernel_rfl) (by kernel_rfl) (fun _ _ _ h => h) (Or.inl ⟨by kernel_rfl, ?_⟩) (by assumption) ?_
    rotate_left 1
    · (intro wS hSw; (try dsimp only at hSw); go_simp; try with_reducible rfl)
    try simp only [Act.put, tA, tZ, tS]
    refine wpAnyH_take (i := 2) (oi := ⟨some 12, .fieldAddr 86 (.tmp 11) 4, 0, "pack.go:98", #[⟨1, .data⟩], none⟩) (v := ?_) rfl (by kernel_rfl) (by kernel_rfl) (by kernel_rfl) (fun _ _ _ h => h) (Or.inl ⟨by kernel_rfl, ?_⟩) (by assumption) ?_
    rotate_left 1
    · (intro wS hSw; (try dsimp only at hSw); go_simp; try with_reducible rfl)
    try simp only [Act.put, tA, tZ, tS]
    refine wpAnyH_take (i := 3) (oi := ⟨some 13, .load 84 (.tmp 12), 84, "pack.go:98", #[⟨2, .data⟩], none⟩) (v := ?_) rfl (by kernel_rfl) (by kernel_rfl) (by kernel_rfl) (fun _ _ _ h => h) (Or.inl ⟨by kernel_rfl, ?_⟩) (by assumption) ?_
    rotate_left 1
    · (intro wS hSw; (try dsimp only at hSw); go_simp; try with_reducible rfl)
    try simp only [Act.put, tA, tZ, tS]
    refine wpAnyH_take (i := 4) (oi := ⟨some 14, .load 37 (.tmp 3), 37, "pack.go:98", #[], none⟩) rfl (by kernel_rfl) (by kernel_rfl) (by kernel_rfl) (fun _ _ _ h => h) (Or.inl ⟨by kernel_rfl, fun wS hSw => ex_load 37 (.tmp 3) rfl w.heap.size 0 32 (bv f) rfl ty30 rfl sz30 hSw.2.1.at0⟩) (by assumption) ?_
    try simp only [Act.put, tA, tZ, tS]
    refine wpAnyH_take (i := 5) (oi := ⟨some 15, .lookup 84 (.tmp 13) (.tmp 14) true, 91, "pack.go:98", #[⟨3, .data⟩, ⟨4, .data⟩], none⟩) rfl (by kernel_rfl) (by kernel_rfl) (by kernel_rfl) (fun _ _ _ h => h) (Or.inl ⟨by kernel_rfl, fun wS hSw => ex_lookup2 84 (.tmp 13) (.tmp 14) rfl _ _ _ rfl rfl (hSw.2.2.look f)⟩) (by assumption) ?_
    try simp only [Act.put, tA, tZ, tS]
    rw [hi]
    unfold idxV
    refine wpAnyH_take (i := 6) (oi := ⟨some 9, .move (.tmp 15), 91, "pack.go:98", #[⟨5, .data⟩], none⟩) (v := ?_) rfl (by kernel_rfl) (by kernel_rfl) (by kernel_rfl) (fun _ _ _ h => h) (Or.inl ⟨by kernel_rfl, ?_⟩) (by assumption) ?_
    rotate_left 1
    · (intro wS hSw; (try dsimp only at hSw); go_simp; try with_reducible rfl)
    try simp only [Act.put, tA, tZ, tS]
    refine wpAnyH_take (i := 7) (oi := ⟨some 16, .extract (.tmp 9) 0, 3, "pack.go:98", #[⟨6, .data⟩], none⟩) (v := ?_) rfl (by kernel_rfl) (by kernel_rfl) (by kernel_rfl) (fun _ _ _ h => h) (Or.inl ⟨by kernel_rfl, ?_⟩) (by assumption) ?_
    rotate_left 1
    · (intro wS hSw; (try dsimp only at hSw); go_simp; try with_reducible rfl)
    try simp only [Act.put, tA, tZ, tS]
    refine wpAnyH_take (i := 8) (oi := ⟨some 17, .extract (.tmp 9) 1, 4, "pack.go:98", #[⟨6, .data⟩, { on := 9, ground := Ground.gcOnly Departure.lateStores }], none⟩) (v := ?_) rfl (by kernel_rfl) (by kernel_rfl) (by kernel_rfl) (fun _ _ _ h => h) (Or.inl ⟨by kernel_rfl, ?_⟩) (by assumption) ?_
    rotate_left 1
    · (intro wS hSw; (try dsimp only at hSw); go_simp; try with_reducible rfl)
    try simp only [Act.put, tA, tZ, tS]
    refine wpAnyH_take (i := 9) (oi := ⟨some 5, .assign (.tmp 16), 3, "pack.go:98", #[⟨7, .data⟩, ⟨0, .phase⟩, ⟨1, .phase⟩, ⟨2, .phase⟩, ⟨3, .phase⟩, ⟨4, .phase⟩, ⟨5, .phase⟩, ⟨6, .phase⟩, ⟨7, .phase⟩, { on := 8, ground := Ground.textOnly Departure.lateStores }], none⟩) (v := ?_) rfl (by kernel_rfl) (by kernel_rfl) (by kernel_rfl) (fun _ _ _ h => h) (Or.inl ⟨by kernel_rfl, ?_⟩) (by assumption) ?_
    rotate_left 1
    · (intro wS hSw; (try dsimp only at hSw); go_simp; try with_reducible rfl)
    try simp only [Act.put, tA, tZ, tS]
    refine wpAnyH_take (i := 10) (oi := ⟨some 6, .assign (.tmp 17), 4, "pack.go:98", #[⟨8, .data⟩, ⟨9, .chain⟩, ⟨0, .phase⟩, ⟨1, .phase⟩, ⟨2, .phase⟩, ⟨3, .phase⟩, ⟨4, .phase⟩, ⟨5, .phase⟩, ⟨6, .phase⟩, ⟨7, .phase⟩, ⟨8, .phase⟩, ⟨9, .phase⟩], none⟩) (v := ?_) rfl (by kernel_rfl) (by kernel_rfl) (by kernel_rfl) (fun _ _ _ h => h) (Or.inl ⟨by kernel_rfl, ?_⟩) (by assumption) ?_
    rotate_left 1
    · (intro wS hSw; (try dsimp only at hSw); go_simp; try with_reducible rfl)
    try simp only [Act.put, tA, tZ, tS]
    refine wpAnyH_done (by kernel_rfl) ?_ _
    refine NoPanic.normal ?_
    go_wp2
    go_ret
    exact ⟨by rw [HF.out]; rfl, L1.out.drew⟩
end Go.Proofs.YtnmjcpoobabjgaaGreatDoor
/- What is asked of an opened pack by places; its parts; how far a base is ahead; where a reader stands. -/
namespace Go.Proofs.YtnmjcpoobabjgaaGreatDoor
set_option maxRecDepth 100000
open Go.RowKit Classical
theorem results_cell_tmp10 {P : Program} {fn : Func} {p q : Tmp} {ty : TypeId} (h : fn.results = #[.cell p ty, .tmp q]) (tmps : Array Value) (w : World) (g : Nat) (t : TypeId) (cs : Array Value) (fr : Nat × Nat) (d : TypeDesc) (u : Value) (hq : tmps.getD q undef = u)
    (hp : tmps.getD p undef = .pointer (some ⟨g, 0, none⟩)) (hg : w.heap[g]? = some (.cells cs t fr))
    (hu : P.underlying ty = some d) (hd : (match d with | .struct _ | .array _ _ => true | _ => false) = true) (hi : (P.info? ty).map (·.size) = some cs.size) :
    (results fn tmps).run P w = .ok (.tuple #[.agg cs, u]) w := by
  subst hq
  have hp' : tmps[p]?.getD undef = .pointer (some ⟨g, 0, none⟩) := by simpa using hp
  simp [results, h, hp', asAddr, run_loadVar_row w g t ty cs fr d hg hu hd hi]
theorem two_set10 {w : World} {p : Nat} {E : TypeId} {x y : Value} (h : w.heap[p]? = some (.cells #[x, y] E (0, 0))) (a b : Value) : ((w.setCell ⟨p, 0, none⟩ a).setCell ⟨p, 1, none⟩ b).heap[p]? = some (.cells #[a, b] E (0, 0)) := by
  rw [heap_setCell_same _ p 1 _ E _ (heap_setCell_same w p 0 _ E _ h)]; rfl
/- a part's own object, and true; or nothing, and false -/
noncomputable def obv (os : List (Int × List UInt8)) (n : Nat) (i : Int) : Value :=
  if 0 ≤ i ∧ i < (n : Int) then .tuple #[.agg #[.int .i64 (os.getD i.toNat zo).1, .string (bs (os.getD i.toNat zo).2)], .bool true] else .tuple #[.agg #[.int .i64 0, .string ⟨#[]⟩], .bool false]
set_option maxHeartbeats 1000000 in
theorem pobject_any {w : World} {g : Nat} {l : List Pt} {S : List Nat} {os : List (Int × List UInt8)} (i : Int) (h : PackAt w g l S os) (hlen : os.length = l.length) :
    Calls Tryz.prog 14 #[.pointer (some ⟨g, 0, none⟩), .int .i64 i] w fun e w' => e = .returned (obv os l.length i) ∧ Below w.heap.size w w' := by
  have hb : Below w.heap.size w (w.alloc (.cells #[.int .i64 0, .string ⟨#[]⟩] 43)) := (Below.refl _ _).alloc (Nat.le_refl _) _
  have C : Hid (_ → _) := Lib.hid (fun (_ : Unit) => phas_any i (h.below hb))
  have L1 := Lib.hid hb
  have hn : (w.alloc (.cells #[.int .i64 0, .string ⟨#[]⟩] 43)).heap[w.heap.size]? = some (.cells #[.int .i64 0, .string ⟨#[]⟩] 43 (0, 0)) := heap_alloc_new _ _
  obtain ⟨vp, vs, vo, vd, m, h1, -, -, h4, -, -⟩ := (h.below hb).there
  obtain ⟨ad, cap, rfl, hc⟩ := RowO.cells h4
  have c2 := cell_of_row _ _ 2 _ _ _ h1
  have C2 := Lib.hid c2
  have HN := Lib.hid hn
  by_cases c : 0 ≤ i ∧ i < (l.length : Int)
  · obtain ⟨k, rfl⟩ : ∃ k : Nat, i = (k : Int) := ⟨i.toNat, by omega⟩
    obtain ⟨b, o, rfl, hbl, k0, k1⟩ := hc k (by omega)
    have HR : Hid (obv os l.length (k : Int) = .tuple #[.agg #[.int .i64 (os.getD k zo).1, .string (bs (os.getD k zo).2)], .bool true]) := by show _ = _; unfold obv; rw [if_pos c]; rfl
    rw [decide_eq_true c] at C
    obtain ⟨n, hn2⟩ : ∃ n, n = os.length := ⟨_, rfl⟩
    rw [← hn2] at c2 C2
    have y1 : (k : Int) < (n : Int) := by omega
    have y0 : (0 : Int) ≤ (k : Int) := by omega
    have K0 := Lib.hid k0
    have K1 := Lib.hid k1
    rw [HR.out]
    generalize (os.getD k zo).1 = kk at *
    generalize bs (os.getD k zo).2 = sb at *
    clear hb h h1 h4 hc c HR hlen hn2
    go_enter Tryz.func14, Tryz.ntmps14
    go_wp2_with fail
    refine (C.out ()).mono ?_
    rintro e w1 ⟨rfl, rfl⟩
    have d2 := C2.out
    have e0 := K0.out
    have e1 := K1.out
    have g0 := cell_of_row _ _ 0 _ _ _ HN.out
    have g1 := cell_of_row _ _ 1 _ _ _ HN.out
    have f0 := frozen_of_row _ _ 0 _ _ HN.out
    have f1 := frozen_of_row _ _ 1 _ _ HN.out
    generalize w.alloc (.cells #[.int .i64 0, .string ⟨#[]⟩] 43) = W at *
    clear C hn c2 k0 k1
    go_wp2
    exact bodyPost_ret (v := .tuple #[.agg #[.int .i64 kk, .string sb], .bool true]) (results_cell_tmp10 rfl _ _ _ _ _ _ _ _ rfl rfl (two_set10 HN.out _ _) Tryz.underlying43 rfl (by kernel_rfl)) rfl ⟨rfl, (L1.out.setCell (Nat.le_refl _) _).setCell (Nat.le_refl _) _⟩
  · have HR : Hid (obv os l.length i = .tuple #[.agg #[.int .i64 0, .string ⟨#[]⟩], .bool false]) := by show _ = _; unfold obv; rw [if_neg c]
    rw [decide_eq_false c] at C
    rw [HR.out]
    clear hb h h1 h4 hc c HR hlen c2 C2
    go_enter Tryz.func14, Tryz.ntmps14
    go_wp2_with fail
    refine (C.out ()).mono ?_
    rintro e w1 ⟨rfl, rfl⟩
    have g0 := cell_of_row _ _ 0 _ _ _ HN.out
    have g1 := cell_of_row _ _ 1 _ _ _ HN.out
    have f0 := frozen_of_row _ _ 0 _ _ HN.out
    have f1 := frozen_of_row _ _ 1 _ _ HN.out
    generalize w.alloc (.cells #[.int .i64 0, .string ⟨#[]⟩] 43) = W at *
    clear C hn
    go_wp2
    exact bodyPost_ret (v := .tuple #[.agg #[.int .i64 0, .string ⟨#[]⟩], .bool false]) (results_cell_tmp10 rfl _ _ _ _ _ _ _ _ rfl rfl (two_set10 HN.out _ _) Tryz.underlying43 rfl (by kernel_rfl)) rfl ⟨rfl, (L1.out.setCell (Nat.le_refl _) _).setCell (Nat.le_refl _) _⟩
noncomputable def spv (S : List Nat) (n : Nat) (i : Int) : Int := if 0 ≤ i ∧ i < (n : Int) then (S.getD i.toNat 0 : Nat) else 0
theorem pspot_any {w : World} {g : Nat} {l : List Pt} {S : List Nat} {os : List (Int × List UInt8)} (i : Int) (h : PackAt w g l S os) (hlen : S.length = l.length) :
    Calls Tryz.prog 18 #[.pointer (some ⟨g, 0, none⟩), .int .i64 i] w fun e w' => e = .returned (.int .i64 (spv S l.length i)) ∧ w = w' := by
  have C : Hid (_ → _) := Lib.hid (fun (_ : Unit) => phas_any i h)
  obtain ⟨vp, vs, vo, vd, m, h1, -, h3, -, -, -⟩ := h.there
  obtain ⟨ad, cap, rfl, hc⟩ := RowN.cells h3
  have c1 := cell_of_row _ _ 1 _ _ _ h1
  by_cases c : 0 ≤ i ∧ i < (l.length : Int)
  · obtain ⟨k, rfl⟩ : ∃ k : Nat, i = (k : Int) := ⟨i.toNat, by omega⟩
    obtain ⟨b, o, rfl, hbl, k0⟩ := hc k (by omega)
    have e : spv S l.length (k : Int) = (S.getD k 0 : Nat) := by unfold spv; rw [if_pos c]; rfl
    rw [decide_eq_true c] at C
    rw [e]
    obtain ⟨n, hn2⟩ : ∃ n, n = S.length := ⟨_, rfl⟩
    rw [← hn2] at c1
    have y1 : (k : Int) < (n : Int) := by omega
    have y0 : (0 : Int) ≤ (k : Int) := by omega
    generalize S.getD k 0 = x at *
    clear h h1 h3 hc c e hlen hn2
    go_enter Tryz.func18, Tryz.ntmps18
    go_wp2_with fail
    refine (C.out ()).mono ?_
    rintro e w1 ⟨rfl, rfl⟩
    go_wp2
    go_ret
    exact ⟨rfl, rfl⟩
  · have e : spv S l.length i = 0 := by unfold spv; rw [if_neg c]
    rw [decide_eq_false c] at C
    rw [e]
    clear h h1 h3 hc c e hlen c1
    go_enter Tryz.func18, Tryz.ntmps18
    go_wp2_with fail
    refine (C.out ()).mono ?_
    rintro e w1 ⟨rfl, rfl⟩
    go_wp2
    go_ret
    exact ⟨rfl, rfl⟩
noncomputable def idv (L : List (Nat → UInt8)) (n : Nat) (i : Int) : Nat → UInt8 := if 0 ≤ i ∧ i < (n : Int) then L.getD i.toNat zf else zf
theorem tIdP : Tryz.prog.underlying 30 = some (.slice 37) := by kernel_rfl
set_option maxHeartbeats 1000000 in
theorem pid_any {w : World} {g : Nat} {l : List Pt} {S : List Nat} {os : List (Int × List UInt8)} (i : Int) (h : PackAt w g l S os) (hlen : os.length = l.length) :
    Calls Tryz.prog 17 #[.pointer (some ⟨g, 0, none⟩), .int .i64 i] w fun e w' => e = .returned (.agg (arr 32 (bv (idv (os.map oid) l.length i)))) ∧ Below w.heap.size w w' := by
  have hb : Below w.heap.size w (w.alloc (.cells (arr 32 (bv fun _ => 0)) 37)) := (Below.refl _ _).alloc (Nat.le_refl _) _
  have C : Hid (_ → _) := Lib.hid (fun (_ : Unit) => phas_any i (h.below hb))
  have L1 := Lib.hid hb
  have BZ : Hid (Blk (w.alloc (.cells (arr 32 (bv fun _ => 0)) 37)) w.heap.size 37 32 (bv fun _ => 0)) := Blk.newAt _ (heap_alloc_new _ _) rfl
  obtain ⟨vp, vs, vo, vd, m, h1, -, -, -, h5, -⟩ := (h.below hb).there
  obtain ⟨ad, cap, rfl, hc⟩ := RowD.cells h5
  have c3 := cell_of_row _ _ 3 _ _ _ h1
  rw [List.length_map] at hc c3
  by_cases c : 0 ≤ i ∧ i < (l.length : Int)
  · obtain ⟨k, rfl⟩ : ∃ k : Nat, i = (k : Int) := ⟨i.toNat, by omega⟩
    obtain ⟨b, o, rfl, hbl, kA⟩ := hc k (by omega)
    have KA := Lib.hid kA
    have HR : Hid (idv (os.map oid) l.length (k : Int) = (os.map oid).getD k zf) := by show _ = _; unfold idv; rw [if_pos c]; rfl
    rw [decide_eq_true c] at C
    rw [HR.out]
    obtain ⟨n, hn2⟩ : ∃ n, n = os.length := ⟨_, rfl⟩
    rw [← hn2] at c3
    have kn : Hid (k < n) := by show k < n; omega
    have C3 := Lib.hid c3
    generalize (os.map oid).getD k zf = D at *
    clear hb h h1 h5 hc c HR hlen hn2 kA c3
    go_enter Tryz.func17, Tryz.ntmps17
    go_upto_region 1 with fail
    change Code.wp _ _ _ _ (w.alloc (.cells (arr 32 (bv fun _ => 0)) 37))
    generalize w.alloc (.cells (arr 32 (bv fun _ => 0)) 37) = w1 at C L1 BZ C3 KA ⊢
    go_wp2_with fail
    refine (C.out ()).mono ?_
    rintro e w2 ⟨rfl, rfl⟩
    go_upto_region 3 with fail
    have c3 := C3.out
    refine wp_region_lit ?_
    iterate 5
      refine wpList_valS (v := ?_) (by kernel_rfl) ?_ ?_
      rotate_left 1
      · (go_simp; try with_reducible rfl)
      try simp only [Act.put, tA, tZ, tS]
    refine wpList_valG (by kernel_rfl) (ex_index 30 37 (.tmp 13) (.tmp 14) rfl b o k n cap 32 rfl rfl tIdP sz30 kn.out) ?_
    try simp only [Act.put, tA, tZ, tS]
    refine wpList_valG (by kernel_rfl) (ex_load 37 (.tmp 15) rfl b (o + k * 32) 32 (bv D) rfl ty30 rfl sz30 KA.out) ?_
    try simp only [Act.put, tA, tZ, tS]
    refine wpList_unitG (by kernel_rfl) (ex_store 37 (.tmp 4) (.tmp 16) rfl w.heap.size 0 32 (bv D) rfl rfl (BZ.out.there 0 32 (by omega)) sz30 (fun _ _ => rfl)) ?_
    try simp only [Act.put, tA, tZ, tS]
    refine wpList_nil ?_
    have B7 := BZ.out.over (bv D)
    have KZ := keep_setCells (b := w.heap.size) (arr 32 (bv D)).toList 0 w1
    have L7 : Hid (Below w.heap.size w (w1.setCells w.heap.size 0 (arr 32 (bv D)).toList)) := ((Keep.of_below L1.out (fun b hb _ => hb) : Keep (fun b => b < w.heap.size) w w1).trans (KZ.mono fun b hb _ => by omega)).below (Nat.le_refl _)
    clear KZ
    generalize w1.setCells w.heap.size 0 (arr 32 (bv D)).toList = w7 at B7 L7 ⊢
    go_wp2
    exact bodyPost_ret (v := .agg (arr 32 (bv D))) (results_blk rfl _ _ w.heap.size 37 32 _ B7 _ rfl ty30 rfl sz30) rfl ⟨rfl, L7.out⟩
  · have HR : Hid (idv (os.map oid) l.length i = zf) := by show _ = _; unfold idv; rw [if_neg c]
    rw [decide_eq_false c] at C
    rw [HR.out]
    unfold zf
    clear hb h h1 h5 hc c HR hlen c3
    go_enter Tryz.func17, Tryz.ntmps17
    go_upto_region 1 with fail
    change Code.wp _ _ _ _ (w.alloc (.cells (arr 32 (bv fun _ => 0)) 37))
    generalize w.alloc (.cells (arr 32 (bv fun _ => 0)) 37) = w1 at C L1 BZ ⊢
    go_wp2_with fail
    refine (C.out ()).mono ?_
    rintro e w2 ⟨rfl, rfl⟩
    go_upto_region 2 with fail
    refine wp_region_lit ?_
    refine wpList_valG (by kernel_rfl) (ex_build0 rfl (bd_zid _)) ?_
    try simp only [Act.put, tA, tZ, tS]
    refine wpList_unitG (by kernel_rfl) (ex_store 37 (.tmp 4) (.tmp 9) rfl w.heap.size 0 32 (bv fun _ => 0) rfl rfl (BZ.out.there 0 32 (by omega)) sz30 (fun _ _ => rfl)) ?_
    try simp only [Act.put, tA, tZ, tS]
    refine wpList_nil ?_
    have B7 := BZ.out.over (bv fun _ => 0)
    have KZ := keep_setCells (b := w.heap.size) (arr 32 (bv fun _ => 0)).toList 0 w1
    have L7 : Hid (Below w.heap.size w (w1.setCells w.heap.size 0 (arr 32 (bv fun _ => 0)).toList)) := ((Keep.of_below L1.out (fun b hb _ => hb) : Keep (fun b => b < w.heap.size) w w1).trans (KZ.mono fun b hb _ => by omega)).below (Nat.le_refl _)
    clear KZ
    generalize w1.setCells w.heap.size 0 (arr 32 (bv fun _ => 0)).toList = w7 at B7 L7 ⊢
    go_wp2
    exact bodyPost_ret (v := .agg (arr 32 (bv fun _ => 0))) (results_blk rfl _ _ w.heap.size 37 32 _ B7 _ rfl ty30 rfl sz30) rfl ⟨rfl, L7.out⟩
/- how far a part's base is ahead -/
theorem ahead_any (p : Pt) (i : Nat) (w : World) (hi : i ≤ 1000) (hb : p.d = true → 0 ≤ p.b ∧ p.b ≤ 1000) : Calls Tryz.prog 27 #[.agg #[.bool p.d, .int .i64 p.b, .string (bs p.t)], .int .i64 (i : Int)] w fun e w' => e = .returned (.int .i64 (ahd p i)) ∧ Below w.heap.size w w' := by
  obtain ⟨pd, pb, pt⟩ := p
  have L1 : ∀ o, Below w.heap.size w (w.alloc o) := fun o => (Below.refl _ _).alloc (Nat.le_refl _) _
  dsimp only
  cases pd with
  | false =>
    have e : ahd ⟨false, pb, pt⟩ i = 0 := rfl
    rw [e]
    clear e hb
    generalize bs pt = sb
    go_enter Tryz.func27, Tryz.ntmps27
    go_wp2
    go_ret
    exact ⟨rfl, L1 _⟩
  | true =>
    have hb := hb rfl
    have e : ahd ⟨true, pb, pt⟩ i = (i : Int) - pb := rfl
    rw [e]
    dsimp only at hb
    have e2 : IntKind.i64.wrap ((i : Int) - pb) = (i : Int) - pb := IntWalk.i64_in _ (by omega)
    clear e
    generalize bs pt = sb
    go_enter Tryz.func27, Tryz.ntmps27
    go_wp2
    go_ret
    exact ⟨rfl, L1 _⟩
theorem rat_any {w : World} {r : Nat} {l p e} (h : Rd w r l p e) : Calls Tryz.prog 63 #[.pointer (some ⟨r, 0, none⟩)] w fun v w' => v = .returned (.int .i64 (p : Int)) ∧ w = w' := by
  obtain ⟨h0, h1, h2, h3, h4⟩ := h.cells
  clear h h0 h2 h3 h4
  go_enter Tryz.func63, Tryz.ntmps63
  go_wp2
  go_ret
  exact ⟨rfl, rfl⟩
end Go.Proofs.YtnmjcpoobabjgaaGreatDoor
/- The law's function of ObjectBack. -/
namespace Go.Proofs.YtnmjcpoobabjgaaGreatDoor
open Go.RowKit Classical
theorem part_one (w : World) (t : TypeId) (hz : (isAgg t).run Tryz.prog w = .ok false w) (n o : Nat) (f : Nat → Value) (h : o < n) : (Go.part t (arr n f) o).run Tryz.prog w = .ok (f o) w := by
  unfold Go.part
  rw [Sem.run_bind, hz, Result.andThen_ok, arr_get _ _ _ h]
  simp
theorem aggI (w : World) : (isAgg 3).run Tryz.prog w = .ok false w := Tryz.isAgg3 w
theorem aggS (w : World) : (isAgg 9).run Tryz.prog w = .ok false w := Tryz.isAgg9 w
theorem bs_eq (a b : List UInt8) : ((bs a).toList == (bs b).toList) = decide (a = b) := by
  rw [toList_bs, toList_bs]
  by_cases h : a = b
  · subst h; simp
  · rw [decide_eq_false h]; simpa using h
theorem eI (w : World) (D : Nat) (hD : 1 ≤ D) (j k : Int) : (Op.equalIn D 3 (.int .i64 j) (.int .i64 k)).run Tryz.prog w = .ok (j == k) w := by
  obtain ⟨d, rfl⟩ : ∃ d, D = d + 1 := ⟨D - 1, by omega⟩
  exact run_equalIn_int (P := Tryz.prog) w d 3 .i64 .i64 j k (by kernel_rfl)
theorem eS (w : World) (D : Nat) (hD : 1 ≤ D) (a b : List UInt8) : (Op.equalIn D 9 (.string (bs a)) (.string (bs b))).run Tryz.prog w = .ok (decide (a = b)) w := by
  obtain ⟨d, rfl⟩ : ∃ d, D = d + 1 := ⟨D - 1, by omega⟩
  have h := run_equalIn_string (P := Tryz.prog) w d 9 (bs a) (bs b) (by kernel_rfl)
  rw [bs_eq] at h
  exact h
theorem sO : Tryz.prog.underlying 43 = some (.struct (Tryz.prog.fieldsOf 43)) := by kernel_rfl
theorem sOh : Tryz.prog.stoodInHeld 43 = false := by kernel_rfl
theorem p0O (w : World) (k : Int) (l : List UInt8) : (Go.part 3 (arr 2 (ov k l)) 0).run Tryz.prog w = .ok (.int .i64 k) w := part_one w 3 (aggI w) 2 0 (ov k l) (by omega)
theorem p1O (w : World) (k : Int) (l : List UInt8) : (Go.part 9 (arr 2 (ov k l)) 1).run Tryz.prog w = .ok (.string (bs l)) w := part_one w 9 (aggS w) 2 1 (ov k l) (by omega)
theorem eqO (w : World) (D : Nat) (hD : 1 ≤ D) (X Y : Array Value) (a b : List UInt8) (j k : Int) (p0 : (Go.part 3 X 0).run Tryz.prog w = .ok (.int .i64 j) w) (q0 : (Go.part 3 Y 0).run Tryz.prog w = .ok (.int .i64 k) w)
    (p1 : (Go.part 9 X 1).run Tryz.prog w = .ok (.string (bs a)) w) (q1 : (Go.part 9 Y 1).run Tryz.prog w = .ok (.string (bs b)) w) :
    (Op.eqFields D X Y (Tryz.prog.fieldsOf 43).toList).run Tryz.prog w = .ok ((j == k) && decide (a = b)) w := by
  have s0 := eS w D (by omega) a b
  have s1 := eI w D (by omega) j k
  generalize Value.string (bs a) = C at p1 s0
  generalize Value.string (bs b) = E at q1 s0
  generalize decide (a = b) = r at s0 ⊢
  simp only [Program.fieldsOf, Tryz.underlying43]
  unfold Op.eqFields
  rw [if_pos (by decide)]
  simp only [Sem.run_bind, p0, q0, s1, Result.andThen_ok]
  generalize (j == k) = r2
  cases r2
  · simp only [Bool.not_false, if_true, Sem.run_pure, Bool.false_and]
  · simp only [Bool.not_true, Bool.false_eq_true, if_false, Bool.true_and]
    unfold Op.eqFields
    rw [if_pos (by decide)]
    simp only [Sem.run_bind, p1, q1, s0, Result.andThen_ok]
    cases r
    · simp only [Bool.not_false, if_true, Sem.run_pure]
    · simp only [Bool.not_true, Bool.false_eq_true, if_false]
      unfold Op.eqFields
      simp only [Sem.run_pure]
theorem equalIn_obj (w : World) (D : Nat) (hD : 2 ≤ D) (j k : Int) (a b : List UInt8) : (Op.equalIn D 43 (.agg (arr 2 (ov j a))) (.agg (arr 2 (ov k b)))).run Tryz.prog w = .ok (decide (j = k ∧ a = b)) w := by
  have h := eqO w (D - 1) (by omega) _ _ _ _ _ _ (p0O w j a) (p0O w k b) (p1O w j a) (p1O w k b)
  have hd : ((j == k) && decide (a = b)) = decide (j = k ∧ a = b) := by
    apply Bool.eq_iff_iff.2
    rw [Bool.and_eq_true, decide_eq_true_iff, decide_eq_true_iff, beq_iff_eq]
  rw [hd] at h
  obtain ⟨d, rfl⟩ : ∃ d, D = d + 1 := ⟨D - 1, by omega⟩
  rw [run_equalIn_struct w d 43 _ _ sO sOh]
  exact h
theorem eqlObj (j k : Int) (a b : List UInt8) (w : World) : (binOp .eql 43 (.agg #[.int .i64 j, .string (bs a)]) (.agg #[.int .i64 k, .string (bs b)])).run Tryz.prog w = .ok (.bool (decide (j = k ∧ a = b))) w := by
  rw [ov_arr, ov_arr, run_eql_struct, equalIn_obj _ _ (by omega)]; rfl
theorem neqObj (j k : Int) (a b : List UInt8) (w : World) : (binOp .neq 43 (.agg #[.int .i64 j, .string (bs a)]) (.agg #[.int .i64 k, .string (bs b)])).run Tryz.prog w = .ok (.bool (!decide (j = k ∧ a = b))) w := by
  rw [ov_arr, ov_arr, run_neq_struct, equalIn_obj _ _ (by omega)]; rfl
/- an object's block, and what was there, stay -/
end Go.Proofs.YtnmjcpoobabjgaaGreatDoor
/- A list of parts cloned; is an object in a list? -/
namespace Go.Proofs.YtnmjcpoobabjgaaGreatDoor
set_option maxRecDepth 100000
open Go.RowKit Classical
theorem szPt : ((.agg #[.bool false, .int .i64 0, .string ⟨#[]⟩] : Value)).cells.size = 3 := rfl
set_option maxHeartbeats 1000000 in
theorem pclone_zero (a : Addr) (c : Nat) (w : World) :
    Calls Tryz.prog 42 #[.slice (some a) 0 c] w fun e w' => ∃ v', e = .returned v' ∧ w'.ownsRow w.heap.size 60 3 v' 0 [] ∧ Below w.heap.size w w' := by
  obtain ⟨i0, hi0, hz0, hz1, hz2⟩ := info_parts iPt
  have hzs : (#[.bool false, .int .i64 0, .string ⟨#[]⟩] : Array Value).size = 3 := rfl
  generalize (#[.bool false, .int .i64 0, .string ⟨#[]⟩] : Array Value) = Z at hz0 hzs
  have q22 : ∀ (w : World) (a : Option Addr) (n c n' c' : Nat), (binOp .eql 22 (.slice a n c) (.slice none n' c')).run Tryz.prog w = .ok (.bool a.isNone) w := fun w a n c n' c' => Lib.run_eql_slice_nil w _ _ a n c n' c' tPt
  go_enter Tryz.func42, Tryz.ntmps42
  go_wp2_with (at_builtin; refine wpList_append_own _ rfl _ _ 22 rfl w.heap.size 60 i0 (.agg Z) 3 32 tPt hi0 hz0 hz1 hz2 hzs (by decide) _ _ _ rfl (World.ownsRow_made w #[] 0 (Nat.le_refl _) (Nat.zero_le _) (by simp)) a 0 c [] rfl ?qc1 ?qc2 ?qc3 ?qc4 ?qc5 ?qc6 ?_)
  case qc1 => rfl
  case qc2 => intro j u hj; simp at hj
  case qc3 => intro u hu; simp at hu
  case qc4 => decide
  case qc5 => decide
  case qc6 => simp
  intro v' w1 hown hgrow hnil
  go_wp2
  go_ret
  refine ⟨v', rfl, by simpa using hown, ?_⟩
  exact ((Below.refl _ w).alloc (Nat.le_refl _) _).grown hgrow (by simp) (by intro k hk; simp [Value.ownBlock] at hk; omega)
theorem pclone_any {l : List Pt} {v : Value} {w : World} (hR : RowP w v l) (hn : l.length ≤ 100000) :
    Calls Tryz.prog 42 #[v] w fun e w' => ∃ v', e = .returned v' ∧ OwnP w' w.heap.size v' l ∧ Below w.heap.size w w' := by
  obtain ⟨n, hnl⟩ : ∃ n, n = l.length := ⟨_, rfl⟩
  have hR' : Row w v 3 (cf 3 gP zp l) n := by rw [hnl]; exact hR
  have goal2 : ∀ w' v', w'.ownsRow w.heap.size 60 3 v' n (arr (n * 3) (cf 3 gP zp l)).toList → OwnP w' w.heap.size v' l := fun w' v' h => by unfold OwnP OwnG; rw [← hnl]; exact h
  rw [← hnl] at hn
  obtain ⟨ad, cap, rfl, ha⟩ := row_addr hR'
  cases ad with
  | none =>
    by_cases h0 : 0 < n
    · obtain ⟨b, o, h1, _⟩ := ha h0
      cases h1
    · have e : n = 0 := by omega
      have h := AnyE.slices_Clone_nil cloneP n cap w
      change Calls Tryz.prog 42 _ _ _ at h
      subst e
      refine h.mono ?_
      rintro e w' ⟨rfl, rfl⟩
      exact ⟨_, rfl, goal2 _ _ (owns_congr (World.ownsRow_nil _ _ _ _) (by simp [arr])), Below.refl _ _⟩
  | some a =>
    by_cases h0 : 0 < n
    · obtain ⟨b, o, h1, h2, h3⟩ := ha h0
      cases h1
      obtain ⟨i0, hi0, hz0, hz1, hz2⟩ := info_parts iPt
      have h := AnyE.slices_Clone cloneP i0 _ 3 32 hi0 hz0 hz1 hz2 szPt (by decide) Tryz.sizeOf60 b o n cap (arr (n * 3) (cf 3 gP zp l)).toList w (by rw [Array.length_toList, arr_size]) (by unfold maxLen; omega) (by omega) (fun j u hj => h3.range j u hj) (fun u hu => by
        rw [Array.mem_toList_iff] at hu
        unfold arr at hu
        rw [Array.mem_ofFn] at hu
        obtain ⟨i, rfl⟩ := hu
        exact gP_one _ _)
      change Calls Tryz.prog 42 _ _ _ at h
      refine h.mono ?_
      rintro e w' ⟨v', rfl, h5, -, h6⟩
      exact ⟨v', rfl, goal2 _ _ h5, h6⟩
    · have e : n = 0 := by omega
      subst e
      refine (pclone_zero a cap w).mono ?_
      rintro e w' ⟨v', rfl, h5, h6⟩
      exact ⟨v', rfl, goal2 _ _ (owns_congr h5 (by simp [arr])), h6⟩
theorem pparts_any {w : World} {g : Nat} {l : List Pt} {S : List Nat} {os : List (Int × List UInt8)} (h : PackAt w g l S os) (hn : l.length ≤ 100000) :
    Calls Tryz.prog 16 #[.pointer (some ⟨g, 0, none⟩)] w fun e w' => ∃ v', e = .returned v' ∧ OwnP w' w.heap.size v' l ∧ Below w.heap.size w w' := by
  obtain ⟨vp, vs, vo, vd, m, h1, h2, -⟩ := h.there
  have C := Lib.hid (fun (_ : Unit) => pclone_any h2 hn)
  obtain ⟨ad, cap, rfl⟩ := RowG.len h2
  have c0 := cell_of_row _ _ 0 _ _ _ h1
  clear h1 h2 h hn
  go_enter Tryz.func16, Tryz.ntmps16
  go_wp2_with fail
  refine (C.out ()).mono ?_
  rintro e w1 ⟨v', rfl, h5, h6⟩
  have H5 := Lib.hid h5
  clear h5
  go_wp2
  go_ret
  exact ⟨_, rfl, H5.out, h6⟩
/- is an object among the first ones? -/
theorem eqlOb (x y : Int × List UInt8) (w : World) : (binOp .eql 43 (.agg #[.int .i64 x.1, .string (bs x.2)]) (.agg #[.int .i64 y.1, .string (bs y.2)])).run Tryz.prog w = .ok (.bool (decide (x = y))) w := by
  have := eqlObj x.1 y.1 x.2 y.2 w
  rw [this]
  congr 2
  rw [decide_eq_decide, Prod.ext_iff]
set_option maxHeartbeats 2000000 in
theorem oindex_any {os : List (Int × List UInt8)} {v : Value} {w : World} (x : Int × List UInt8) (hR : RowO w v os) (hn : os.length ≤ 100000) :
    Calls Tryz.prog 71 #[v, .agg #[.int .i64 x.1, .string (bs x.2)]] w fun e w' => ∃ r : Int, e = .returned (.int .i64 r) ∧ (0 ≤ r ↔ x ∈ os) ∧ Below w.heap.size w w' := by
  obtain ⟨ad, cap, rfl, hc⟩ := RowO.cells hR
  obtain ⟨n, hn1⟩ : ∃ n, n = os.length := ⟨_, rfl⟩
  rw [← hn1] at hc hn ⊢
  have hb : Below w.heap.size w (w.alloc (.cells #[.int .i64 x.1, .string (bs x.2)] 43)) := (Below.refl _ _).alloc (Nat.le_refl _) _
  have L1 := Lib.hid hb
  have hw : (w.alloc (.cells #[.int .i64 x.1, .string (bs x.2)] 43)).heap[w.heap.size]? = some (.cells #[.int .i64 x.1, .string (bs x.2)] 43 (0, 0)) := heap_alloc_new _ _
  have k0 := cell_of_row _ _ 0 _ _ _ hw
  have k1 := cell_of_row _ _ 1 _ _ _ hw
  have HC : Hid (∀ k, k < n → ∃ b o, ad = some ⟨b, o, none⟩ ∧ (w.alloc (.cells #[.int .i64 x.1, .string (bs x.2)] 43)).cell? ⟨b, o + k * 2, none⟩ = some (.int .i64 (os.getD k zo).1) ∧ (w.alloc (.cells #[.int .i64 x.1, .string (bs x.2)] 43)).cell? ⟨b, o + k * 2 + 1, none⟩ = some (.string (bs (os.getD k zo).2))) := fun k hk => by
    obtain ⟨b, o, h1, h2, h3, h4⟩ := hc k hk
    refine ⟨b, o, h1, ?_, ?_⟩
    · rw [hb.cell (p := ⟨b, o + k * 2, none⟩) h2]; exact h3
    · rw [hb.cell (p := ⟨b, o + k * 2 + 1, none⟩) h2]; exact h4
  have HE : Hid (∀ k W, (binOp .eql 43 (.agg #[.int .i64 x.1, .string (bs x.2)]) (.agg #[.int .i64 (os.getD k zo).1, .string (bs (os.getD k zo).2)])).run Tryz.prog W = .ok (.bool (decide (x = os.getD k zo))) W) := fun k W => eqlOb x (os.getD k zo) W
  have HM : Hid (x ∈ os ↔ ∃ k, k < n ∧ x = os.getD k zo) := by
    show _ ↔ _
    rw [hn1, List.mem_iff_getElem]
    constructor
    · rintro ⟨k, hk, h⟩; exact ⟨k, hk, by rw [List.getD_eq_getElem?_getD, List.getElem?_eq_getElem hk, ← h]; rfl⟩
    · rintro ⟨k, hk, h⟩; exact ⟨k, hk, by rw [h, List.getD_eq_getElem?_getD, List.getElem?_eq_getElem hk]; rfl⟩
  obtain ⟨d, hd⟩ : ∃ d : Nat → Bool, d = fun k => decide (x = os.getD k zo) := ⟨_, rfl⟩
  obtain ⟨ok, hok⟩ : ∃ ok : Nat → Int, ok = fun k => (os.getD k zo).1 := ⟨_, rfl⟩
  obtain ⟨ot, hot⟩ : ∃ ot : Nat → ByteArray, ot = fun k => bs (os.getD k zo).2 := ⟨_, rfl⟩
  have HC2 : Hid (∀ k, k < n → ∃ b o, ad = some ⟨b, o, none⟩ ∧ (w.alloc (.cells #[.int .i64 x.1, .string (bs x.2)] 43)).cell? ⟨b, o + k * 2, none⟩ = some (.int .i64 (ok k)) ∧ (w.alloc (.cells #[.int .i64 x.1, .string (bs x.2)] 43)).cell? ⟨b, o + k * 2 + 1, none⟩ = some (.string (ot k))) := by rw [hok, hot]; exact HC.out
  have HE2 : Hid (∀ k W, (binOp .eql 43 (.agg #[.int .i64 x.1, .string (bs x.2)]) (.agg #[.int .i64 (ok k), .string (ot k)])).run Tryz.prog W = .ok (.bool (d k)) W) := by rw [hok, hot, hd]; exact HE.out
  have HD : Hid (∀ k, d k = true ↔ x = os.getD k zo) := fun k => by rw [hd]; exact decide_eq_true_iff
  have HX := Lib.hid hw
  obtain ⟨xk, hxk⟩ : ∃ xk, xk = x.1 := ⟨_, rfl⟩
  obtain ⟨xs, hxs⟩ : ∃ xs, xs = bs x.2 := ⟨_, rfl⟩
  rw [← hxk, ← hxs] at L1 k0 k1 HC2 HE2 HX ⊢
  clear hb hw hc hR HC HE hd hok hot hxk hxs hn1
  go_enter Tryz.func71, Tryz.ntmps71
  go_wp2
  generalize w.alloc (.cells #[.int .i64 xk, .string xs] 43) = W0 at L1 k0 k1 HC2 HX ⊢
  have K0 := Lib.hid k0
  have K1 := Lib.hid k1
  clear k0 k1
  go_loopw [8] (fun i wr => ∃ k : Nat, k ≤ n ∧ i = .int .i64 (k : Int) ∧ Hid (∀ j, j < k → d j = false) ∧ Hid (Below W0.heap.size W0 wr)) (fun i _ => n - (intOf i).toNat)
  case atStart => exact ⟨0, Nat.zero_le _, rfl, (fun j hj => by omega : ∀ j, j < 0 → d j = false), Below.refl _ _⟩
  case round =>
    obtain ⟨k, hk, rfl, hF, hB⟩ := hrel
    by_cases hlt : k < n
    · obtain ⟨b, o, rfl, q0, q1⟩ := HC2.out k hlt
      have yk : (k : Int) < (n : Int) := by omega
      have y0 : (0 : Int) ≤ (k : Int) := by omega
      have w5 : IntKind.i64.wrap ((k : Int) + 1) = (k : Int) + 1 := IntWalk.i64_in _ (by omega)
      have r0 : wr.cell? ⟨w.heap.size, 0, none⟩ = some (.int .i64 xk) := by rw [hB.out.cell (block_lt_of_cell K0.out)]; exact K0.out
      have r1 : wr.cell? ⟨w.heap.size, 1, none⟩ = some (.string xs) := by rw [hB.out.cell (block_lt_of_cell K1.out)]; exact K1.out
      have p0 : wr.cell? ⟨b, o + k * 2, none⟩ = some (.int .i64 (ok k)) := by rw [hB.out.cell (block_lt_of_cell q0)]; exact q0
      have p1 : wr.cell? ⟨b, o + k * 2 + 1, none⟩ = some (.string (ot k)) := by rw [hB.out.cell (block_lt_of_cell q1)]; exact q1
      have e1 := HE2.out k
      have F2 : Hid (d k = false → ∀ j, j < k + 1 → d j = false) := fun h j hj => by
        by_cases e : j = k
        · subst e; exact h
        · exact hF.out j (by omega)
      have HDk := Lib.hid (HD.out k)
      clear q0 q1 hF
      generalize d k = dk at e1 F2 HDk
      generalize ok k = okk at *
      generalize ot k = otk at *
      cases dk with
      | true =>
        go_wp2
        go_quiet (fail)
        go_wp2
        go_ret
        exact ⟨_, rfl, ⟨fun _ => HM.out.2 ⟨k, hlt, HDk.out.1 trivial⟩, fun _ => by omega⟩, L1.out.trans ((below_drewN hB.out _).mono L1.out.size)⟩
      | false =>
        go_wp2
        go_quiet (fail)
        go_wp2
        go_roundw
        case rel => exact ⟨k + 1, by omega, by go_num, F2.out trivial, below_drewN hB.out _⟩
        case measure => simp [intOf]; omega
    · have e : k = n := by omega
      subst e
      clear hlt
      go_wp2
      go_ret
      refine ⟨_, rfl, ⟨fun h => by omega, fun h => ?_⟩, L1.out.trans (hB.out.mono L1.out.size)⟩
      obtain ⟨j, hj, hx⟩ := HM.out.1 h
      have h1 := hF.out j hj
      have h2 := (HD.out j).2 hx
      rw [h1] at h2
      cases h2
theorem ocontains_any {os : List (Int × List UInt8)} {v : Value} {w : World} (x : Int × List UInt8) (hR : RowO w v os) (hn : os.length ≤ 100000) :
    Calls Tryz.prog 45 #[v, .agg #[.int .i64 x.1, .string (bs x.2)]] w fun e w' => e = .returned (.bool (decide (x ∈ os))) ∧ Below w.heap.size w w' := by
  have hb : Below w.heap.size w (w.alloc (.cells #[.int .i64 x.1, .string (bs x.2)] 43)) := (Below.refl _ _).alloc (Nat.le_refl _) _
  have C := Lib.hid (fun (_ : Unit) => oindex_any x (RowG.below hR hb) hn)
  have L1 := Lib.hid hb
  obtain ⟨ad, cap, rfl⟩ := RowG.len hR
  obtain ⟨q, hq⟩ : ∃ q, q = decide (x ∈ os) := ⟨_, rfl⟩
  rw [← hq]
  have HQ : Hid (q = true ↔ x ∈ os) := by show _ ↔ _; rw [hq]; exact decide_eq_true_iff
  generalize x.1 = xk at *
  generalize bs x.2 = xs at *
  clear hb hq hR
  go_enter Tryz.func45, Tryz.ntmps45
  go_wp2_with fail
  refine (C.out ()).mono ?_
  rintro e w1 ⟨r, rfl, h1, h2⟩
  have hqr : q = decide (0 ≤ r) := by
    rw [Bool.eq_iff_iff, HQ.out, decide_eq_true_iff]
    exact h1.symm
  have HL : Hid (Below w.heap.size w w1) := L1.out.trans (h2.mono L1.out.size)
  have HQR := Lib.hid hqr
  clear h1 h2 HQ C L1 hqr
  go_wp2
  go_ret
  exact ⟨by rw [HQR.out]; rfl, HL.out⟩
end Go.Proofs.YtnmjcpoobabjgaaGreatDoor
