import Derived.Test.YtnfhnkplkbpmpaaDoorT1
import Derived.Deep.RegionHeld3
namespace Go.Proofs.YtnfhnkplkbpmpaaDoor
open Go.RowKit
theorem range_below {w1 w2 : World} {b : Nat} {F : List Value} (h : w1.rangeAt b 0 F) (hb : Below w1.heap.size w1 w2) : w2.rangeAt b 0 F := fun j v hv => by
  have hc := h j v hv
  rw [hb.cell (block_lt_of_cell hc)]; exact hc
theorem texts_keep {n : Nat} {w0 w1 w2 : World} {b0 b5 b7 : Nat} {F D : List Value} (h : Below n w0 w1 ∧ w1.rangeAt b0 0 F ∧ w1.rangeAt b5 0 D ∧ w1.rangeAt b7 0 D) (hb : Below w1.heap.size w1 w2) (hn : n ≤ w0.heap.size) :
    Below n w0 w2 ∧ w2.rangeAt b0 0 F ∧ w2.rangeAt b5 0 D ∧ w2.rangeAt b7 0 D :=
  ⟨h.1.trans (hb.mono (Nat.le_trans hn h.1.size)), range_below h.2.1 hb, range_below h.2.2.1 hb, range_below h.2.2.2 hb⟩
theorem Blk.whole {w : World} {b E n f} (h : Blk w b E n f) : w.rangeAt b 0 (arr n f).toList := fun j v hv => by
  rw [Nat.zero_add]
  have hj : j < n := by
    by_cases c : j < n
    · exact c
    · rw [List.getElem?_eq_none (by rw [Array.length_toList, arr_size]; omega)] at hv; cases hv
  rw [h.cell j hj]
  rw [Array.getElem?_toList, arr_get n f j hj] at hv
  exact hv
theorem enter8 : ∀ (args : Array Value) (w : World), (callFunc 8 args).run Tryd.prog w = .ok (.enter 8 args) w := fun _ _ => by rfl
theorem enter18 : ∀ (args : Array Value) (w : World), (callFunc 18 args).run Tryd.prog w = .ok (.enter 18 args) w := fun _ _ => by rfl
theorem enter19 : ∀ (args : Array Value) (w : World), (callFunc 19 args).run Tryd.prog w = .ok (.enter 19 args) w := fun _ _ => by rfl
theorem noGuard26 : Tryd.prog.eqGuardType Tryd.prog.depth 26 = false := by kernel_rfl
theorem eq_bool (b : Bool) : ∀ w : World, (binOp .eql 4 (.bool b) (.bool b)).run Tryd.prog w = .ok (.bool true) w := fun w => by cases b <;> rfl
theorem isAgg26 : ∀ w : World, (isAgg 26).run Tryd.prog w = .ok true w := fun w => by
  unfold isAgg
  rw [Sem.run_bind, run_underlying ty26]; rfl
theorem load_list (w : World) (b : Nat) (cs : List Value) (hc : w.rangeAt b 0 cs) : (loadCellsFrom ⟨b, 0, none⟩ 0 cs.length #[]).run Tryd.prog w = .ok cs.toArray w :=
  run_loadCells_list (P := Tryd.prog) w ⟨b, 0, none⟩ cs (fun j v hv => by rw [Addr.add_mid]; exact hc j v hv)
theorem loads26 (b0 b5 b7 : Nat) (F D : List Value) (hF : (Tryd.prog.info? 26).map (·.size) = some F.length) (hD : (Tryd.prog.info? 26).map (·.size) = some D.length) : ∃ m : Nat, (∀ w : World, (sizeOf 26).run Tryd.prog w = .ok m w) ∧
    (∀ w : World, w.rangeAt b0 0 F → (loadCellsFrom ⟨b0, 0, none⟩ 0 m #[]).run Tryd.prog w = .ok F.toArray w) ∧
    (∀ w : World, w.rangeAt b5 0 D → (loadCellsFrom ⟨b5, 0, none⟩ 0 m #[]).run Tryd.prog w = .ok D.toArray w) ∧
    (∀ w : World, w.rangeAt b7 0 D → (loadCellsFrom ⟨b7, 0, none⟩ 0 m #[]).run Tryd.prog w = .ok D.toArray w) := by
  have e : D.length = F.length := by rw [hF] at hD; exact (Option.some.inj hD).symm
  refine ⟨F.length, fun w => ?_, fun w h => load_list w b0 F h, fun w h => by rw [← e]; exact load_list w b5 D h, fun w h => by rw [← e]; exact load_list w b7 D h⟩
  cases hq : Tryd.prog.info? 26 with
  | none => simp [hq] at hF
  | some i =>
    have hs : i.size = F.length := by simpa [hq] using hF
    simp [sizeOf, typeInfo, hq, hs]
theorem agg_list (f : Nat → UInt8) : (arr 32 (bv f)).toList.toArray = arr 32 (bv f) := Array.toArray_toList
theorem len_list (f : Nat → UInt8) : (arr 32 (bv f)).toList.length = 32 := by rw [Array.length_toList, arr_size]
theorem texts_pack (f g : Nat → UInt8) {W : World} {b0 b5 b7 : Nat} (B : Blk W b0 26 32 (bv f)) (A : Blk W b5 26 32 (bv g)) (C : Blk W b7 26 32 (bv g)) :
    ∃ (F D : List Value) (H : ByteArray), (Tryd.prog.info? 26).map (·.size) = some F.length ∧ (Tryd.prog.info? 26).map (·.size) = some D.length ∧
        (∀ w, (binOp .eql 26 (.agg D.toArray) (.agg D.toArray)).run Tryd.prog w = .ok (.bool true) w) ∧
        Hid (∀ W, Calls Tryd.prog 18 #[.agg F.toArray] W fun e w' => e = .returned (.string H) ∧ Below W.heap.size W w') ∧
        Hid (∀ W, Calls Tryd.prog 19 #[.agg F.toArray] W fun e w' => e = .returned (.string H) ∧ Below W.heap.size W w') ∧
        W.rangeAt b0 0 F ∧ W.rangeAt b5 0 D ∧ W.rangeAt b7 0 D := by
  have hB := B.whole
  have hA := A.whole
  have hC := C.whole
  have h1 := hex_any f
  have h2 := refhex_any f
  have h3 := eq_arr g g (fun _ _ => rfl)
  have l1 := len_list f
  have l2 := len_list g
  rw [← agg_list f] at h1 h2
  rw [← agg_list g] at h3
  generalize (arr 32 (bv f)).toList = F at hB h1 h2 l1
  generalize (arr 32 (bv g)).toList = D at hA hC h3 l2
  generalize (⟨(hexL f 32).toArray⟩ : ByteArray) = H at h1 h2
  refine ⟨F, D, H, ?_, ?_, h3, h1, h2, hB, hA, hC⟩
  · rw [l1]; exact sz26
  · rw [l2]; exact sz26
set_option maxHeartbeats 2000000 in
set_option maxRecDepth 100000 in
theorem texts_any (f : Nat → UInt8) (s : ByteArray) (w : World) (hs : s.size ≤ 9223372036854775807) (hk : ∀ i, i < 64 → w.cell? ⟨0, i, none⟩ = some (wv kk i)) :
    Calls Tryd.prog 6 #[.agg (arr 32 (bv f)), .string s] w fun e w' => e = .returned (.bool true) ∧ Below w.heap.size w w' := by
  have h0 : 0 < w.heap.size := block_lt_of_cell (hk 0 (by omega))
  have HKW : Hid (∀ w', Below w.heap.size w w' → ∀ i, i < 64 → w'.cell? ⟨0, i, none⟩ = some (wv kk i)) := fun w' L i hi => by rw [L.cell h0]; exact hk i hi
  clear hk
  have L0 : ∀ A, Below w.heap.size w (w.alloc A) := fun A => (Below.refl _ _).alloc (Nat.le_refl _) _
  have B0 : Blk (w.alloc (.cells (arr 32 (bv f)) 26)) w.heap.size 26 32 (bv f) := Blk.newAt _ (heap_alloc_new _ _) rfl
  go_enter Tryd.func6, Tryd.ntmps6
  go_wp2_with fail
  refine (alive_any _ (HKW.out _ (L0 _))).mono ?_
  rintro e w1 ⟨rfl, hb1⟩
  have L1 := (L0 _).trans (hb1.mono (by simp))
  have B1 := B0.below hb1 B0.lt
  clear hb1 B0 L0
  by_cases hbig : s.size > 1000
  · have hb' : (1000 : Int) < (s.size : Int) := by omega
    go_wp2_with fail
    refine (alive_any _ (HKW.out _ L1)).mono ?_
    rintro e w2 ⟨rfl, hb2⟩
    have L2 := L1.trans (hb2.mono L1.size)
    go_wp2_with fail
    go_ret
    exact ⟨rfl, L2⟩
  · have hb' : (s.size : Int) ≤ 1000 := by omega
    have Hbig := Lib.hid hbig
    clear hbig
    go_wp2_with fail
    refine (unhex_any s w1 (by omega)).mono ?_
    rintro e w2 ⟨rfl, hb2⟩
    have L2 := L1.trans (hb2.mono L1.size)
    have B2 := B1.below hb2 B1.lt
    clear hb2 L1 B1
    go_upto_region 6 with (refine wpList_store_blk rfl 26 (.tmp 5) (.tmp 18) rfl w2.heap.size 32 (bv (uh s)) (bv fun _ => 0) rfl rfl 26 (Blk.newAt _ (heap_alloc_new _ _) rfl) sz26 (fun _ _ => rfl) ?_)
    rw [World.setRow_alloc_new]
    have A4 : Blk (w2.alloc (.cells (arr 32 (bv (uh s))) 26)) w2.heap.size 26 32 (bv (uh s)) := Blk.newAt _ (heap_alloc_new _ _) rfl
    have B4 := B2.alloc (.cells (arr 32 (bv (uh s))) 26)
    have L4 := L2.alloc L2.size (.cells (arr 32 (bv (uh s))) 26)
    clear L2 B2
    generalize w2.alloc (.cells (arr 32 (bv (uh s))) 26) = w4 at A4 B4 L4 ⊢
    go_wp2_with fail
    refine (refunhex_any s w4 (by omega)).mono ?_
    rintro e w5 ⟨rfl, hb5⟩
    have A5 := A4.below hb5 A4.lt
    have B5 := B4.below hb5 B4.lt
    have L5 := L4.trans (hb5.mono L4.size)
    clear hb5 A4 B4 L4
    go_upto_region 7 with (refine wpList_store_blk rfl 26 (.tmp 7) (.tmp 23) rfl w5.heap.size 32 (bv (uh s)) (bv fun _ => 0) rfl rfl 26 (Blk.newAt _ (heap_alloc_new _ _) rfl) sz26 (fun _ _ => rfl) ?_)
    rw [World.setRow_alloc_new]
    have C6 : Blk (w5.alloc (.cells (arr 32 (bv (uh s))) 26)) w5.heap.size 26 32 (bv (uh s)) := Blk.newAt _ (heap_alloc_new _ _) rfl
    have A6 := A5.alloc (.cells (arr 32 (bv (uh s))) 26)
    have B6 := B5.alloc (.cells (arr 32 (bv (uh s))) 26)
    have L6 := L5.alloc L5.size (.cells (arr 32 (bv (uh s))) 26)
    clear A5 B5 L5
    generalize w5.alloc (.cells (arr 32 (bv (uh s))) 26) = w6 at A6 B6 C6 L6 ⊢
    obtain ⟨F, D, H, nF, nD, q, C1, C2, R0, R5, R7⟩ := texts_pack f (uh s) B6 A6 C6
    clear A6 B6 C6
    have K6 : Below w.heap.size w w6.drew ∧ w6.drew.rangeAt w.heap.size 0 F ∧ w6.drew.rangeAt w2.heap.size 0 D ∧ w6.drew.rangeAt w5.heap.size 0 D := ⟨L6.drew, R0, R5, R7⟩
    clear L6 R0 R5 R7
    generalize arr 32 (bv (uh s)) = junk1
    generalize arr 32 (bv f) = junk2
    generalize uok s = b
    have H8 : Hid (∀ W, Below w.heap.size w W → Calls Tryd.prog 8 #[] W fun e w' => e = .returned (.bool true) ∧ Below W.heap.size W w') := fun W hW => alive_any W (HKW.out _ hW)
    obtain ⟨m, z26, l0, l5, l7⟩ := loads26 w.heap.size w2.heap.size w5.heap.size F D nF nD
    have g26 := isAgg26
    have q4 := eq_bool b
    have m26 : Tryd.prog.eqGuardType Tryd.prog.depth 26 = false := noGuard26
    have c8 := enter8
    have c18 := enter18
    have c19 := enter19
    clear nF nD HKW
    generalize Tryd.prog = P at q C1 C2 H8 l0 l5 l7 z26 g26 m26 q4 c8 c18 c19 ⊢
    go_region_held3 (fun w' => Below w.heap.size w w' ∧ w'.rangeAt w.heap.size 0 F ∧ w'.rangeAt w2.heap.size 0 D ∧ w'.rangeAt w5.heap.size 0 D) (first | exact K6 | assumption)
      (first | (go_at_call 8; refine (H8.out _ (And.left (by assumption))).mono ?_; rintro e w7 ⟨rfl, hb7⟩; have L7 := texts_keep (by assumption) hb7 (Nat.le_refl _)) | (go_at_call 18; refine (C1.out _).mono ?_; rintro e w7 ⟨rfl, hb7⟩; have L7 := texts_keep (by assumption) hb7 (Nat.le_refl _)) | (go_at_call 19; refine (C2.out _).mono ?_; rintro e w7 ⟨rfl, hb7⟩; have L7 := texts_keep (by assumption) hb7 (Nat.le_refl _)))
    all_goals go_wp2_with fail
    all_goals go_ret
    all_goals exact ⟨rfl, And.left (by assumption)⟩
end Go.Proofs.YtnfhnkplkbpmpaaDoor
