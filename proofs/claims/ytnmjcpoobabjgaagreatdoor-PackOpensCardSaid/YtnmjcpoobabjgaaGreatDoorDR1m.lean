import Derived.Test.YtnmjcpoobabjgaaGreatDoorDW3m
import Derived.Test.YtnmjcpoobabjgaaGreatDoorDW6m
set_option linter.unusedVariables false
set_option linter.unusedSimpArgs false
namespace Go.Proofs.YtnmjcpoobabjgaaGreatDoor.Dg
open Go.RowKit
/- the document's words: sums for ors, ors for exclusive ors -/
theorem ch_or (e f g : W32) : (e &&& f) ||| (~~~e &&& g) = (e &&& f) ^^^ (~~~e &&& g) := by
  apply BitVec.eq_of_getLsbD_eq
  intro i hi
  simp only [BitVec.getLsbD_or, BitVec.getLsbD_xor, BitVec.getLsbD_and, BitVec.getLsbD_not]
  cases e.getLsbD i <;> cases f.getLsbD i <;> cases g.getLsbD i <;> simp
theorem maj_or (a b c : W32) : (a &&& b) ||| (a &&& c) ||| (b &&& c) = (a &&& b) ^^^ (a &&& c) ^^^ (b &&& c) := by
  apply BitVec.eq_of_getLsbD_eq
  intro i hi
  simp only [BitVec.getLsbD_or, BitVec.getLsbD_xor, BitVec.getLsbD_and]
  cases a.getLsbD i <;> cases b.getLsbD i <;> cases c.getLsbD i <;> rfl
theorem X8_bit (b : UInt8) (i : Nat) (h : 8 ≤ i) : (X8 b).getLsbD i = false := by
  unfold X8
  rw [BitVec.getLsbD_setWidth]
  rw [BitVec.getLsbD_of_ge _ _ h, Bool.and_false]
theorem wd_sum (f : Nat → UInt8) (j : Nat) : X8 (f (4 * j)) <<< 24 + X8 (f (4 * j + 1)) <<< 16 + X8 (f (4 * j + 2)) <<< 8 + X8 (f (4 * j + 3)) = wd f j := by
  unfold wd
  generalize f (4 * j) = a
  generalize f (4 * j + 1) = b
  generalize f (4 * j + 2) = c
  generalize f (4 * j + 3) = d
  have h1 : X8 a <<< 24 &&& X8 b <<< 16 = 0#32 := by
    apply BitVec.eq_of_getLsbD_eq
    intro i hi
    simp only [BitVec.getLsbD_and, BitVec.getLsbD_shiftLeft, BitVec.getLsbD_zero]
    by_cases c1 : i < 24
    · simp [c1]
    · rw [X8_bit b (i - 16) (by omega)]; simp
  have h2 : (X8 a <<< 24 ||| X8 b <<< 16) &&& X8 c <<< 8 = 0#32 := by
    apply BitVec.eq_of_getLsbD_eq
    intro i hi
    simp only [BitVec.getLsbD_and, BitVec.getLsbD_or, BitVec.getLsbD_shiftLeft, BitVec.getLsbD_zero]
    by_cases c1 : i < 16
    · have c2 : i < 24 := by omega
      simp [c1, c2]
    · rw [X8_bit c (i - 8) (by omega)]; simp
  have h3 : (X8 a <<< 24 ||| X8 b <<< 16 ||| X8 c <<< 8) &&& X8 d = 0#32 := by
    apply BitVec.eq_of_getLsbD_eq
    intro i hi
    simp only [BitVec.getLsbD_and, BitVec.getLsbD_or, BitVec.getLsbD_shiftLeft, BitVec.getLsbD_zero]
    by_cases c1 : i < 8
    · have c2 : i < 24 := by omega
      have c3 : i < 16 := by omega
      simp [c1, c2, c3]
    · rw [X8_bit d i (by omega)]; simp
  rw [BitVec.add_eq_or_of_and_eq_zero _ _ h1, BitVec.add_eq_or_of_and_eq_zero _ _ h2, BitVec.add_eq_or_of_and_eq_zero _ _ h3]
attribute [local go_sem] U_xor U_and U_or U_add U_addm U_shl U_shr U_shlm U_shrm U_xor3 U_xor10
set_option maxHeartbeats 400000 in
theorem right_any (x : W32) (n : Nat) (w : World) (h0 : 0 < n) (h1 : n < 32) :
    Calls Tryz.prog 100 #[.int .u32 (U x), .int .u64 (n : Int)] w fun e w' => e = .returned (.int .u32 (U (rr x n))) ∧ w = w' := by
  have e1 : IntKind.u64.wrap (32 - (n : Int)) = ((32 - n : Nat) : Int) := by rw [IntWalk.u64_in _ (by omega)]; omega
  have l0 := U_ge x
  have l1 := U_lt x
  go_enter Tryz.func100, Tryz.ntmps100
  go_wp2
  go_ret
  unfold rr
  rw [BitVec.or_comm]
  exact ⟨rfl, rfl⟩
theorem right_at (x : W32) (k : Int) (n : Nat) (w : World) (hk : k = n) (h0 : 0 < n) (h1 : n < 32) :
    Calls Tryz.prog 100 #[.int .u32 (U x), .int .u64 k] w fun e w' => e = .returned (.int .u32 (U (rr x n))) ∧ w = w' := by
  subst hk; exact right_any x n w h0 h1
def kr : List Int := [1116352408, 1899447441, 3049323471, 3921009573, 961987163, 1508970993, 2453635748, 2870763221, 3624381080, 310598401, 607225278, 1426881987, 1925078388, 2162078206, 2614888103, 3248222580, 3835390401, 4022224774, 264347078, 604807628, 770255983, 1249150122, 1555081692, 1996064986, 2554220882, 2821834349, 2952996808, 3210313671, 3336571891, 3584528711, 113926993, 338241895, 666307205, 773529912, 1294757372, 1396182291, 1695183700, 1986661051, 2177026350, 2456956037, 2730485921, 2820302411, 3259730800, 3345764771, 3516065817, 3600352804, 4094571909, 275423344, 430227734, 506948616, 659060556, 883997877, 958139571, 1322822218, 1537002063, 1747873779, 1955562222, 2024104815, 2227730452, 2361852424, 2428436474, 2756734187, 3204031479, 3329325298]
theorem kr_kk : ∀ i, i < 64 → kr.getD i 0 = U (kk i) := by decide +kernel
def zr : List Value := [.int .u32 0, .int .u32 0, .int .u32 0, .int .u32 0, .int .u32 0, .int .u32 0, .int .u32 0, .int .u32 0, .int .u32 0, .int .u32 0, .int .u32 0, .int .u32 0, .int .u32 0, .int .u32 0, .int .u32 0, .int .u32 0, .int .u32 0, .int .u32 0, .int .u32 0, .int .u32 0, .int .u32 0, .int .u32 0, .int .u32 0, .int .u32 0, .int .u32 0, .int .u32 0, .int .u32 0, .int .u32 0, .int .u32 0, .int .u32 0, .int .u32 0, .int .u32 0, .int .u32 0, .int .u32 0, .int .u32 0, .int .u32 0, .int .u32 0, .int .u32 0, .int .u32 0, .int .u32 0, .int .u32 0, .int .u32 0, .int .u32 0, .int .u32 0, .int .u32 0, .int .u32 0, .int .u32 0, .int .u32 0, .int .u32 0, .int .u32 0, .int .u32 0, .int .u32 0, .int .u32 0, .int .u32 0, .int .u32 0, .int .u32 0, .int .u32 0, .int .u32 0, .int .u32 0, .int .u32 0, .int .u32 0, .int .u32 0, .int .u32 0, .int .u32 0]
theorem zero64 : zr.toArray = arr 64 (fun _ => .int .u32 0) := by rfl
theorem kr_arr : (kr.map (Value.int .u32)).toArray = arr 64 (wv kk) := by
  apply Array.ext
  · rw [arr_size]; rfl
  · intro i h1 h2
    rw [arr_size] at h2
    have e := kr_kk i h2
    have h3 : i < kr.length := h2
    rw [List.getD_eq_getElem?_getD, List.getElem?_eq_getElem h3] at e
    simp only [List.getElem_toArray, List.getElem_map]
    have e2 := arr_get 64 (wv kk) i h2
    rw [Array.getElem?_eq_getElem (by rw [arr_size]; exact h2)] at e2
    rw [Option.some.inj e2]
    exact congrArg (Value.int .u32) e
set_option maxHeartbeats 1000000 in
set_option maxRecDepth 100000 in
theorem rounds_any (w : World) :
    Calls Tryz.prog 101 #[] w fun e w' => e = .returned (.agg (arr 64 (wv kk))) ∧ Below w.heap.size w w' := by
  have N0 : ∀ cs, cs = arr 64 (fun _ => .int .u32 0) → Blk (w.alloc (.cells cs 170)) w.heap.size 170 64 (fun _ => .int .u32 0) := fun cs h => Blk.newAt _ (heap_alloc_new _ _) h
  go_enter Tryz.func101, Tryz.ntmps101
  go_wp2_with (refine wpList_store_blk rfl 170 (.tmp 0) (.tmp 1) rfl w.heap.size 64 (wv kk) (fun _ => .int .u32 0) rfl (congrArg Value.agg kr_arr) 170 (N0 _ zero64) sz58 (fun _ _ => rfl) ?_)
  rw [World.setRow_alloc_new]
  have L1 : Below w.heap.size w (w.alloc (.cells (arr 64 (wv kk)) 170)) := (Below.refl _ _).alloc (Nat.le_refl _) _
  have B1 : Blk (w.alloc (.cells (arr 64 (wv kk)) 170)) w.heap.size 170 64 (wv kk) := Blk.newAt _ (heap_alloc_new _ _) rfl
  generalize w.alloc (.cells (arr 64 (wv kk)) 170) = w1 at L1 B1 ⊢
  refine bodyPost_ret (v := .agg (arr 64 (wv kk))) (results_blk rfl _ _ w.heap.size 170 64 (wv kk) B1 _ rfl ty58 rfl sz58) rfl ⟨rfl, L1⟩
end Go.Proofs.YtnmjcpoobabjgaaGreatDoor.Dg
namespace Go.Proofs.YtnmjcpoobabjgaaGreatDoor.Dg
open Go.RowKit
attribute [local go_sem] U_xor U_and U_or U_add U_addm U_shl U_shr U_shlm U_shrm U_w8 U_shl24 U_shl16 U_shl8 U_xor3 U_xor10 U_not ch_or maj_or
theorem right_k (x : W32) (k : Int) (w : World) (h0 : 0 < k) (h1 : k < 32) :
    Calls Tryz.prog 100 #[.int .u32 (U x), .int .u64 k] w fun e w' => e = .returned (.int .u32 (U (rr x k.toNat))) ∧ w = w' :=
  right_at x k k.toNat w (by omega) (by omega) (by omega)
set_option maxHeartbeats 4000000 in
set_option maxRecDepth 100000 in
theorem block_any (st : Nat → W32) (b : ByteArray) (w : World) (hs : b.size = 64) :
    Calls Tryz.prog 81 #[.agg (arr 8 (wv st)), .string b] w fun e w' => e = .returned (.agg (arr 8 (wv (cmpr st (sAt b))))) ∧ Below w.heap.size w w' := by
  have S0 : ∀ A B, Blk (((w.alloc (.cells (arr 8 (wv st)) 137)).alloc A).alloc B) w.heap.size 137 8 (wv st) := fun A B => (Blk.newAt _ (heap_alloc2_old w _ _) rfl : Blk ((w.alloc (.cells (arr 8 (wv st)) 137)).alloc A) w.heap.size 137 8 (wv st)).alloc B
  have R0 : ∀ A B, Blk (((w.alloc A).alloc (.cells (arr 8 (fun _ => .int .u32 0)) 137)).alloc B) (w.heap.size + 1) 137 8 (fun _ => .int .u32 0) := fun A B => (Blk.newAt _ (heap_alloc2_new w _ _) rfl : Blk ((w.alloc A).alloc (.cells (arr 8 (fun _ => .int .u32 0)) 137)) (w.heap.size + 1) 137 8 (fun _ => .int .u32 0)).alloc B
  have L0 : ∀ A B C, Below w.heap.size w (((w.alloc A).alloc B).alloc C) := fun A B C => (((Below.refl _ _).alloc (Nat.le_refl _) _).alloc (by simp) _).alloc (by simp; omega) _
  have W0 : ∀ A B cs, cs = arr 64 (wv fun _ => 0#32) → Blk (((w.alloc A).alloc B).alloc (.cells cs 170)) (w.heap.size + 1 + 1) 170 64 (wv fun _ => 0#32) := fun A B cs h => by
    have h1 := heap_alloc_new ((w.alloc A).alloc B) (.cells cs 170)
    have e : ((w.alloc A).alloc B).heap.size = w.heap.size + 1 + 1 := by show ((w.heap.push A).push B).size = _; simp
    rw [e] at h1
    exact Blk.newAt _ h1 h
  have Hs := Lib.hid hs
  clear hs
  go_enter Tryz.func81, Tryz.ntmps81
  go_wp2
  go_loopw [6] (fun i wr => ∃ (k : Nat) (g : Nat → W32), k ≤ 16 ∧ i = .int .i64 k ∧ Blk wr (w.heap.size + 1 + 1) 170 64 (wv g) ∧ (∀ j, j < k → g j = wd (sAt b) j) ∧
     Blk wr w.heap.size 137 8 (wv st) ∧ Blk wr (w.heap.size + 1) 137 8 (fun _ => .int .u32 0) ∧ Below w.heap.size w wr) (fun i _ => 16 - (intOf i).toNat)
  case atStart => exact ⟨0, fun _ => 0#32, by omega, rfl, W0 _ _ _ (by rfl), fun j hj => absurd hj (by omega), S0 _ _, R0 _ _, L0 _ _ _⟩
  case round =>
    clear W0 S0 R0 L0
    obtain ⟨k, g, hk, rfl, hB, hg, hS, hR, hbl⟩ := hrel
    by_cases hlt : k < 16
    · have c0 := idx_str b (4 * k) (by have := Hs.out; omega)
      have c1 := idx_str b (4 * k + 1) (by have := Hs.out; omega)
      have c2 := idx_str b (4 * k + 2) (by have := Hs.out; omega)
      have c3 := idx_str b (4 * k + 3) (by have := Hs.out; omega)
      have p0 : ((4 * k : Nat) : Int) = 4 * (k : Int) := by omega
      have p1 : ((4 * k + 1 : Nat) : Int) = 4 * (k : Int) + 1 := by omega
      have p2 : ((4 * k + 2 : Nat) : Int) = 4 * (k : Int) + 2 := by omega
      have p3 : ((4 * k + 3 : Nat) : Int) = 4 * (k : Int) + 3 := by omega
      simp only [p0] at c0
      simp only [p1] at c1
      simp only [p2] at c2
      simp only [p3] at c3
      clear p0 p1 p2 p3
      have G := Lib.hid hg
      clear hg
      have E := Lib.hid (wd_sum (sAt b) k)
      generalize sAt b (4 * k) = b0 at c0 E
      generalize sAt b (4 * k + 1) = b1 at c1 E
      generalize sAt b (4 * k + 2) = b2 at c2 E
      generalize sAt b (4 * k + 3) = b3 at c3 E
      go_wp2
      have a0 : IntKind.i64.wrap (4 * (k : Int)) = 4 * k := IntWalk.i64_in _ (by omega)
      have a1 : IntKind.i64.wrap (4 * (k : Int) + 1) = 4 * k + 1 := IntWalk.i64_in _ (by omega)
      have a2 : IntKind.i64.wrap (4 * (k : Int) + 2) = 4 * k + 2 := IntWalk.i64_in _ (by omega)
      have a3 : IntKind.i64.wrap (4 * (k : Int) + 3) = 4 * k + 3 := IntWalk.i64_in _ (by omega)
      have zk : (0 : Int) ≤ (k : Int) := by omega
      have yk : (k : Int) < 64 := by omega
      go_still_tail 31, (by kernel_rfl)
      clear a0 a1 a2 a3 c0 c1 c2 c3
      change wpList _ _ _ _ _ wr.drew
      have hB2 := hB.drew
      have hS2 := hS.drew
      have hR2 := hR.drew
      have hbl2 := hbl.drew
      generalize wr.drew = w2 at hB2 hS2 hR2 hbl2 ⊢
      have f2 := hB2.frozen k
      have c2 := hB2.cell k (by omega)
      go_wp2
      go_roundw
      case rel =>
        refine ⟨k + 1, fun j => if j = k then wd (sAt b) k else g j, by omega, by go_num, ?_, ?_, hS2.setOther _ _ (by show w.heap.size + 1 + 1 ≠ _; omega), hR2.setOther _ _ (by show w.heap.size + 1 + 1 ≠ _; omega), hbl2.setCell (by show _ ≤ w.heap.size + 1 + 1; omega) _⟩
        · refine (hB2.set k _).congr fun i hi => ?_
          unfold wv
          by_cases e : i = k
          · simp only [if_pos e]
            rw [← E.out]
          · simp only [if_neg e]
        · intro j hj
          by_cases e : j = k
          · subst e; simp
          · simp [e]; exact G.out j (by omega)
      case measure => simp [intOf]; omega
    · have H : Hid (∀ j, j < 16 → g j = tab (wd (sAt b)) 0 j) := fun j hj => hg j (by omega)
      clear hg
      go_wp2
      go_loopw [7] (fun i wr => ∃ (k : Nat) (g : Nat → W32), 16 ≤ k ∧ k ≤ 64 ∧ i = .int .i64 k ∧ Blk wr (w.heap.size + 1 + 1) 170 64 (wv g) ∧ (∀ j, j < k → g j = tab (wd (sAt b)) (k - 16) j) ∧
          Blk wr w.heap.size 137 8 (wv st) ∧ Blk wr (w.heap.size + 1) 137 8 (fun _ => .int .u32 0) ∧ Below w.heap.size w wr) (fun i _ => 64 - (intOf i).toNat)
      case atStart => exact ⟨16, g, by omega, by omega, rfl, hB, H.out, hS, hR, hbl⟩
      case round =>
        clear hB H hS hR hbl g
        obtain ⟨k, g, hk16, hk, rfl, hB, hg, hS, hR, hbl⟩ := hrel
        have G := Lib.hid hg
        clear hg
        by_cases hlt : k < 64
        · have c0 : wr.cell? ⟨w.heap.size + 1 + 1, k - 2, none⟩ = some (.int .u32 (U (g (k - 2)))) := hB.cell (k - 2) (by omega)
          have c2 : wr.cell? ⟨w.heap.size + 1 + 1, k - 15, none⟩ = some (.int .u32 (U (g (k - 15)))) := hB.cell (k - 15) (by omega)
          have a0 : IntKind.i64.wrap ((k : Int) - 2) = k - 2 := IntWalk.i64_in _ (by omega)
          have a1 : IntKind.i64.wrap ((k : Int) - 7) = k - 7 := IntWalk.i64_in _ (by omega)
          have a2 : IntKind.i64.wrap ((k : Int) - 15) = k - 15 := IntWalk.i64_in _ (by omega)
          have a3 : IntKind.i64.wrap ((k : Int) - 16) = k - 16 := IntWalk.i64_in _ (by omega)
          have z0 : (0 : Int) ≤ (k : Int) - 2 := by omega
          have z1 : (0 : Int) ≤ (k : Int) - 7 := by omega
          have z2 : (0 : Int) ≤ (k : Int) - 15 := by omega
          have z3 : (0 : Int) ≤ (k : Int) - 16 := by omega
          have z4 : (0 : Int) ≤ (k : Int) := by omega
          have x0 : (2 : Int) ≤ (k : Int) := by omega
          have x1 : (7 : Int) ≤ (k : Int) := by omega
          have x2 : (15 : Int) ≤ (k : Int) := by omega
          have x3 : (16 : Int) ≤ (k : Int) := by omega
          have y0 : (k : Int) - 2 < 64 := by omega
          have y1 : (k : Int) - 7 < 64 := by omega
          have y2 : (k : Int) - 15 < 64 := by omega
          have y3 : (k : Int) - 16 < 64 := by omega
          have y4 : (k : Int) < 64 := by omega
          have t0 : ((k : Int) - 2).toNat = k - 2 := by omega
          have t1 : ((k : Int) - 7).toNat = k - 7 := by omega
          have t2 : ((k : Int) - 15).toNat = k - 15 := by omega
          have t3 : ((k : Int) - 16).toNat = k - 16 := by omega
          go_wp2
          go_quiet (fail)
          have hB1 := hB.drewN nq
          have hS1 := hS.drewN nq
          have hR1 := hR.drewN nq
          have hbl1 := below_drewN hbl nq
          clear hB hS hR hbl c0 c2
          generalize wr.drewN nq = w1 at hB1 hS1 hR1 hbl1 ⊢
          have c1 : w1.cell? ⟨w.heap.size + 1 + 1, k - 7, none⟩ = some (.int .u32 (U (g (k - 7)))) := hB1.cell (k - 7) (by omega)
          have c3 : w1.cell? ⟨w.heap.size + 1 + 1, k - 16, none⟩ = some (.int .u32 (U (g (k - 16)))) := hB1.cell (k - 16) (by omega)
          obtain ⟨y, hy⟩ : ∃ y, y = g (k - 2) := ⟨_, rfl⟩
          obtain ⟨x, hx⟩ : ∃ x, x = g (k - 15) := ⟨_, rfl⟩
          rw [← hy, ← hx]
          have ly := U_ge y
          have lx := U_ge x
          have Hy := Lib.hid hy
          have Hx := Lib.hid hx
          clear hy hx
          go_wp2
          go_still_tail 29, (by kernel_rfl)
          still_call ((right_at _ 17 17 _ rfl (by omega) (by omega)).mono fun e w' h => ⟨h.1, h.2.symm⟩)
          repeat still_step
          still_call ((right_at _ 19 19 _ rfl (by omega) (by omega)).mono fun e w' h => ⟨h.1, h.2.symm⟩)
          repeat still_step
          still_call ((right_at _ 7 7 _ rfl (by omega) (by omega)).mono fun e w' h => ⟨h.1, h.2.symm⟩)
          repeat still_step
          still_call ((right_at _ 18 18 _ rfl (by omega) (by omega)).mono fun e w' h => ⟨h.1, h.2.symm⟩)
          repeat still_step
          try refine wpStill_nil ?_
          clear a0 a1 a2 a3 t0 t1 t2 t3 c1 c3
          change wpList _ _ _ _ _ w1.drew
          have hB2 := hB1.drew
          have hS2 := hS1.drew
          have hR2 := hR1.drew
          have hbl2 := hbl1.drew
          clear hB1 hS1 hR1 hbl1
          generalize w1.drew = w2 at hB2 hS2 hR2 hbl2 ⊢
          have f2 := hB2.frozen k
          have c2 := hB2.cell k (by omega)
          go_wp2
          go_roundw
          case rel =>
            refine ⟨k + 1, fun j => if j = k then sS1 (g (k - 2)) + g (k - 7) + sS0 (g (k - 15)) + g (k - 16) else g j, by omega, by omega, by go_num, ?_, ?_, hS2.setOther _ _ (by show w.heap.size + 1 + 1 ≠ _; omega), hR2.setOther _ _ (by show w.heap.size + 1 + 1 ≠ _; omega), hbl2.setCell (by show _ ≤ w.heap.size + 1 + 1; omega) _⟩
            · refine (hB2.set k _).congr fun i hi => ?_
              have ex := Hx.out
              have ey := Hy.out
              unfold wv
              by_cases e : i = k
              · simp only [if_pos e]
                rw [ex, ey]
                rfl
              · simp only [if_neg e]
            · exact tab_step _ _ _ hk16 G.out
          case measure => simp [intOf]; omega
        · have e : k = 64 := by omega
          subst e
          clear hlt hk hk16
          have W := hB.congr (g := wv (sch (wd (sAt b)))) (fun i hi => by unfold wv; rw [G.out i hi]; rfl)
          clear hB G
          obtain ⟨ws, hws⟩ : ∃ ws, ws = sch (wd (sAt b)) := ⟨_, rfl⟩
          rw [← hws] at W
          have Hws := Lib.hid hws
          clear hws
          go_wp2_with fail
          refine (rounds_any _).mono ?_
          rintro e w1 ⟨rfl, hb1⟩
          have W1 := W.below hb1 W.lt
          have S1 := hS.below hb1 hS.lt
          have R1 := hR.below hb1 hR.lt
          have L1 := hbl.trans (hb1.mono hbl.size)
          clear hb1 W hS hR hbl
          go_upto_region 12 with (refine wpList_store_blk rfl 170 (.tmp 10) (.tmp 98) rfl w1.heap.size 64 (wv kk) (fun _ => .int .u32 0) rfl rfl 170 (Blk.newAt _ (heap_alloc_new _ _) zero64) sz58 (fun _ _ => rfl) ?_)
          rw [World.setRow_alloc_new]
          have K2 : Blk (w1.alloc (.cells (arr 64 (wv kk)) 170)) w1.heap.size 170 64 (wv kk) := Blk.newAt _ (heap_alloc_new _ _) rfl
          have W2 := W1.alloc (.cells (arr 64 (wv kk)) 170)
          have S2 := S1.alloc (.cells (arr 64 (wv kk)) 170)
          have R2 := R1.alloc (.cells (arr 64 (wv kk)) 170)
          have L2 := L1.alloc L1.size (.cells (arr 64 (wv kk)) 170)
          clear W1 S1 R1 L1
          generalize w1.alloc (.cells (arr 64 (wv kk)) 170) = w2 at K2 W2 S2 R2 L2 ⊢
          have c0 : w2.cell? ⟨w.heap.size, 0, none⟩ = some (.int .u32 (U (st 0))) := S2.cell 0 (by omega)
          have c1 : w2.cell? ⟨w.heap.size, 1, none⟩ = some (.int .u32 (U (st 1))) := S2.cell 1 (by omega)
          have c2 : w2.cell? ⟨w.heap.size, 2, none⟩ = some (.int .u32 (U (st 2))) := S2.cell 2 (by omega)
          have c3 : w2.cell? ⟨w.heap.size, 3, none⟩ = some (.int .u32 (U (st 3))) := S2.cell 3 (by omega)
          have c4 : w2.cell? ⟨w.heap.size, 4, none⟩ = some (.int .u32 (U (st 4))) := S2.cell 4 (by omega)
          have c5 : w2.cell? ⟨w.heap.size, 5, none⟩ = some (.int .u32 (U (st 5))) := S2.cell 5 (by omega)
          have c6 : w2.cell? ⟨w.heap.size, 6, none⟩ = some (.int .u32 (U (st 6))) := S2.cell 6 (by omega)
          have c7 : w2.cell? ⟨w.heap.size, 7, none⟩ = some (.int .u32 (U (st 7))) := S2.cell 7 (by omega)
          go_quiet (fail)
          go_wp2
          go_quiet (fail)
          clear c0 c1 c2 c3 c4 c5 c6 c7
          go_wp2
          go_loopw [11, 12, 13, 14, 15, 16, 17, 18, 19] (fun va vb vc vd ve vf vg vh i wr => ∃ (k : Nat) (s : St), k ≤ 64 ∧ i = .int .i64 k ∧ s = rnds ws (stOf st) k ∧
              va = .int .u32 (U s.a) ∧ vb = .int .u32 (U s.b) ∧ vc = .int .u32 (U s.c) ∧ vd = .int .u32 (U s.d) ∧ ve = .int .u32 (U s.e) ∧ vf = .int .u32 (U s.f) ∧ vg = .int .u32 (U s.g) ∧ vh = .int .u32 (U s.h) ∧
              Blk wr w.heap.size 137 8 (wv st) ∧ Blk wr (w.heap.size + 1) 137 8 (fun _ => .int .u32 0) ∧ Blk wr (w.heap.size + 1 + 1) 170 64 (wv ws) ∧ Blk wr w1.heap.size 170 64 (wv kk) ∧ Below w.heap.size w wr)
            (fun _ _ _ _ _ _ _ _ i _ => 64 - (intOf i).toNat)
          case atStart => exact ⟨0, stOf st, by omega, rfl, rfl, rfl, rfl, rfl, rfl, rfl, rfl, rfl, rfl, (S2.drewN _).drewN _, (R2.drewN _).drewN _, (W2.drewN _).drewN _, (K2.drewN _).drewN _, below_drewN (below_drewN L2 _) _⟩
          case round =>
            clear S2 R2 L2 W2 K2
            obtain ⟨k, s, hkk, rfl, hs, rfl, rfl, rfl, rfl, rfl, rfl, rfl, rfl, S2, R2, W2, K2, L2⟩ := hrel
            have Hs := Lib.hid hs
            clear hs
            by_cases hlt : k < 64
            · have ck : wr.cell? ⟨w1.heap.size, k, none⟩ = some (.int .u32 (U (kk k))) := K2.cell k hlt
              have cw : wr.cell? ⟨w.heap.size + 1 + 1, k, none⟩ = some (.int .u32 (U (ws k))) := W2.cell k hlt
              have zk : (0 : Int) ≤ (k : Int) := by omega
              have yk : (k : Int) < 64 := by omega
              go_wp2
              go_quiet ((go_at_call 100; exact Calls.quiet_of_same ((right_k _ _ _ (by decide) (by decide)).mono fun e w' h => ⟨h.1, h.2.symm⟩)))
              go_wp2_with (go_at_call 100; refine (right_k _ _ _ (by decide) (by decide)).mono ?_; rintro e w' ⟨rfl, rfl⟩)
              go_roundw
              case rel =>
                refine ⟨k + 1, rnd ws k s, by omega, by go_num, ?_, rfl, rfl, rfl, rfl, rfl, rfl, rfl, rfl, S2.drewN _, R2.drewN _, W2.drewN _, K2.drewN _, below_drewN L2 _⟩
                have := Hs.out
                rw [this]; rfl
              case measure => simp [intOf]; omega
            · have e : Hid (k = 64) := by show k = 64; omega
              have c0 : wr.cell? ⟨w.heap.size, 0, none⟩ = some (.int .u32 (U (st 0))) := S2.cell 0 (by omega)
              have c1 : wr.cell? ⟨w.heap.size, 1, none⟩ = some (.int .u32 (U (st 1))) := S2.cell 1 (by omega)
              have c2 : wr.cell? ⟨w.heap.size, 2, none⟩ = some (.int .u32 (U (st 2))) := S2.cell 2 (by omega)
              have c3 : wr.cell? ⟨w.heap.size, 3, none⟩ = some (.int .u32 (U (st 3))) := S2.cell 3 (by omega)
              have c4 : wr.cell? ⟨w.heap.size, 4, none⟩ = some (.int .u32 (U (st 4))) := S2.cell 4 (by omega)
              have c5 : wr.cell? ⟨w.heap.size, 5, none⟩ = some (.int .u32 (U (st 5))) := S2.cell 5 (by omega)
              have c6 : wr.cell? ⟨w.heap.size, 6, none⟩ = some (.int .u32 (U (st 6))) := S2.cell 6 (by omega)
              have c7 : wr.cell? ⟨w.heap.size, 7, none⟩ = some (.int .u32 (U (st 7))) := S2.cell 7 (by omega)
              go_wp2_with (refine wpList_store_blk rfl 137 (.tmp 4) (.tmp 210) rfl (w.heap.size + 1) 8 (fun i => .int .u32 (U (st i + ofSt s i))) (fun _ => .int .u32 0) rfl rfl 137 R2 sz31 (fun _ _ => rfl) ?_)
              have R3 := R2.setRow (fun i => .int .u32 (U (st i + ofSt s i)))
              have L3 := below_setRow L2 (Nat.le_succ _) (arr 8 (fun i => .int .u32 (U (st i + ofSt s i))))
              generalize wr.setRow (w.heap.size + 1) (arr 8 (fun i => .int .u32 (U (st i + ofSt s i)))) = w3 at R3 L3 ⊢
              refine bodyPost_ret (v := .agg (arr 8 (fun i => .int .u32 (U (st i + ofSt s i))))) (results_blk rfl _ _ (w.heap.size + 1) 137 8 _ R3 _ rfl ty31 rfl sz31) rfl ⟨?_, L3⟩
              have hk64 : k = 64 := e.out
              subst hk64
              have hs := Hs.out
              have hw := Hws.out
              subst hs
              subst hw
              exact congrArg (fun a => Ending.returned (.agg a)) (arr_congr fun i hi => rfl)
end Go.Proofs.YtnmjcpoobabjgaaGreatDoor.Dg
namespace Go.Proofs.YtnmjcpoobabjgaaGreatDoor.Dg
open Go.RowKit
/- a text of n bytes as a function tells them -/
def strL (n : Nat) (f : Nat → UInt8) : List UInt8 := (List.range n).map f
theorem strL_length (n : Nat) (f : Nat → UInt8) : (strL n f).length = n := by simp [strL]
theorem strL_get (n : Nat) (f : Nat → UInt8) (i : Nat) (h : i < (strL n f).length) : (strL n f)[i] = f i := by simp [strL]
theorem strL_succ (n : Nat) (f : Nat → UInt8) : strL (n + 1) f = strL n f ++ [f n] := by simp [strL, List.range_succ]
theorem strL_add (n m : Nat) (f : Nat → UInt8) : strL (n + m) f = strL n f ++ strL m (fun i => f (n + i)) := by
  induction m with
  | zero => simp [strL]
  | succ m ih => rw [← Nat.add_assoc, strL_succ, ih, strL_succ, List.append_assoc]
theorem strL_congr {n : Nat} {f g : Nat → UInt8} (h : ∀ i, i < n → f i = g i) : strL n f = strL n g := by
  unfold strL
  apply List.map_congr_left
  intro i hi
  exact h i (List.mem_range.1 hi)
def str (n : Nat) (f : Nat → UInt8) : ByteArray := ⟨(strL n f).toArray⟩
theorem str_size (n : Nat) (f : Nat → UInt8) : (str n f).size = n := by
  show (strL n f).toArray.size = n
  rw [List.size_toArray, strL_length]
theorem str_self (s : ByteArray) : s = str s.size (sAt s) := by
  have e : s.data.toList = strL s.size (sAt s) := by
    apply List.ext_getElem
    · rw [strL_length, Array.length_toList]; rfl
    · intro i h1 h2
      rw [strL_get]
      unfold sAt
      rw [List.getD_eq_getElem?_getD, List.getElem?_eq_getElem h1]; rfl
  apply ByteArray.ext
  show s.data = (strL s.size (sAt s)).toArray
  rw [← e, Array.toArray_toList]
theorem str_at (n : Nat) (f : Nat → UInt8) (i : Nat) (h : i < n) : sAt (str n f) i = f i := by
  unfold sAt str
  rw [List.getD_eq_getElem?_getD, List.toList_toArray, List.getElem?_eq_getElem (by rw [strL_length]; exact h), strL_get]; rfl
theorem str_push (n : Nat) (f : Nat → UInt8) (c : UInt8) (h : f n = c) : str n f ++ ⟨#[c]⟩ = str (n + 1) f := by
  unfold str
  rw [strL_succ, h]
  exact ByteArray.mk_append_mk _ [c]
theorem str_add (n m : Nat) (f g : Nat → UInt8) (h : ∀ i, i < m → f (n + i) = g i) : str n f ++ str m g = str (n + m) f := by
  unfold str
  rw [strL_add, strL_congr h]
  exact ByteArray.mk_append_mk _ _
theorem str_congr {n : Nat} {f g : Nat → UInt8} (h : ∀ i, i < n → f i = g i) : str n f = str n g := by unfold str; rw [strL_congr h]
def padded (s : ByteArray) : ByteArray := str (64 * nbl s.size) (pad (sAt s) s.size)
def sLen : Value → Nat
  | .string s => s.size
  | _ => 0
/- the eight bytes of the length, k of them written, from the last *-/
def endB (n k j : Nat) : UInt8 := if 8 ≤ j + k then lenByte n j else 0
theorem endB_step (n k : Nat) (hk : k < 8) (j : Nat) : endB n (k + 1) j = if j = 7 - k then UInt8.ofNat (8 * n / 256 ^ k % 256) else endB n k j := by
  unfold endB
  by_cases c : j = 7 - k
  · rw [if_pos c, if_pos (by omega)]
    unfold lenByte
    rw [show 7 - j = k by omega]
    apply UInt8.toNat_inj.1
    rw [UInt8.toNat_ofNat', UInt8.toNat_ofNat']
    omega
  · rw [if_neg c]
    by_cases c2 : 8 ≤ j + k
    · rw [if_pos c2, if_pos (by omega)]
    · rw [if_neg c2, if_neg (by omega)]
set_option maxHeartbeats 2000000 in
set_option maxRecDepth 100000 in
theorem lengthened_any (s : ByteArray) (w : World) (hs : s.size ≤ 1073741824) :
    Calls Tryz.prog 80 #[.string s] w fun e w' => e = .returned (.string (padded s)) ∧ Below w.heap.size w w' := by
  have hq : 64 * nbl s.size = 64 * ((s.size + 8) / 64) + 64 := by unfold nbl; omega
  have n1 : ¬ 9223372036854775807 < s.size + 1 := by omega
  have e0 : s ++ ⟨#[128]⟩ = str (s.size + 1) (pad (sAt s) s.size) := by
    have h1 : s ++ ⟨#[128]⟩ = str s.size (sAt s) ++ ⟨#[128]⟩ := congrArg (fun z => z ++ (⟨#[128]⟩ : ByteArray)) (str_self s)
    rw [h1, str_congr (g := pad (sAt s) s.size) (fun i hi => (pad_lt hi).symm)]
    exact str_push _ _ _ (by unfold pad; rw [if_neg (by omega), if_pos rfl])
  have l0 : (0 : Int) ≤ (s.size : Int) := by omega
  have e64 : IntKind.u64.wrap (s.size : Int) = (s.size : Int) := IntWalk.u64_in _ (by omega)
  have e8 : IntKind.u64.wrap ((s.size : Int) * 8) = ((8 * s.size / 256 ^ 0 : Nat) : Int) := by rw [IntWalk.u64_in _ (by omega)]; omega
  go_enter Tryz.func80, Tryz.ntmps80
  go_wp2
  clear e0 n1
  have HQ := Lib.hid hq
  clear hq
  go_loopw [3] (fun v wr => ∃ (m : Nat) (t : ByteArray), s.size < m ∧ m + 8 ≤ 64 * nbl s.size ∧ v = .string t ∧ t = str m (pad (sAt s) s.size) ∧ w = wr) (fun v _ => 64 * nbl s.size - sLen v)
  case atStart => exact ⟨s.size + 1, _, by omega, by have := HQ.out; omega, rfl, rfl, rfl⟩
  case round =>
    obtain ⟨m, t, hm1, hm2, rfl, ht, rfl⟩ := hrel
    have ts : t.size = m := by rw [ht]; exact str_size _ _
    have Ht := Lib.hid ht
    clear ht
    have Hts := Lib.hid ts
    have n1 : ¬ 9223372036854775807 < t.size + 1 := by have := HQ.out; omega
    obtain ⟨r, hr⟩ : ∃ r, r = m % 64 := ⟨_, rfl⟩
    have e3 : (t.size : Int).tmod 64 = (r : Int) := by rw [Int.tmod_eq_emod_of_nonneg (by omega)]; omega
    have e4 : (t.size : Int) % 64 = (r : Int) := by omega
    have Hr := Lib.hid hr
    clear hr ts
    by_cases c : r = 56
    · have b1 : ((r : Int) != 56) = false := by subst c; rfl
      have n9 : ¬ 9223372036854775807 < t.size + 8 := by have := HQ.out; have := Hts.out; omega
      have L0 : ∀ A, Below w.heap.size w (w.alloc A) := fun A => (Below.refl _ _).alloc (Nat.le_refl _) _
      have B0 : ∀ cs, cs = arr 8 (bv (endB s.size 0)) → Blk (w.alloc (.cells cs 169)) w.heap.size 169 8 (bv (endB s.size 0)) := fun cs h => Blk.newAt _ (heap_alloc_new _ _) h
      go_wp2
      go_loopw [4, 6] (fun v i wq => ∃ (k : Nat), k ≤ 8 ∧ i = .int .i64 k ∧ v = .int .u64 ((8 * s.size / 256 ^ k : Nat) : Int) ∧ Blk wq w.heap.size 169 8 (bv (endB s.size k)) ∧ Below w.heap.size w wq) (fun _ i _ => 8 - (intOf i).toNat)
      case atStart => exact ⟨0, by omega, rfl, congrArg (Value.int .u64) (by rw [Nat.pow_zero, Nat.div_one]; rfl), B0 _ (by rfl), L0 _⟩
      case round =>
        clear B0 L0
        obtain ⟨k, hk, rfl, rfl, hB, hbl⟩ := hrel
        by_cases hlt : k < 8
        · obtain ⟨q, hq⟩ : ∃ q, q = 8 * s.size / 256 ^ k := ⟨_, rfl⟩
          have lq : q ≤ 8 * s.size := by rw [hq]; exact Nat.div_le_self _ _
          have hq2 : q / 256 = 8 * s.size / 256 ^ (k + 1) := by rw [hq, Nat.div_div_eq_div_mul, ← Nat.pow_succ]
          have st := endB_step s.size k hlt
          rw [← hq] at st ⊢
          have St := Lib.hid st
          have Hq2 := Lib.hid hq2
          clear st hq hq2
          have w7 : IntKind.i64.wrap (7 - (k : Int)) = ((7 - k : Nat) : Int) := by rw [IntWalk.i64_in _ (by omega)]; omega
          have q1 : (q : Int).tmod 256 = ((q % 256 : Nat) : Int) := by rw [Int.tmod_eq_emod_of_nonneg (by omega)]; omega
          have q2 : (q : Int).tdiv 256 = ((q / 256 : Nat) : Int) := by rw [Int.tdiv_eq_ediv_of_nonneg (by omega)]; omega
          have q5 : (q : Int) % 256 = ((q % 256 : Nat) : Int) := by omega
          have q6 : (q : Int) / 256 = ((q / 256 : Nat) : Int) := by omega
          obtain ⟨r1, hr1⟩ : ∃ r1, r1 = q % 256 := ⟨_, rfl⟩
          obtain ⟨r2, hr2⟩ : ∃ r2, r2 = q / 256 := ⟨_, rfl⟩
          rw [← hr1] at q1 q5
          rw [← hr2] at q2 q6
          have u1 : IntKind.u8.wrap (r1 : Int) = (r1 : Int) := IntWalk.u8_in _ (by omega)
          have u2 : IntKind.u64.wrap (r1 : Int) = (r1 : Int) := IntWalk.u64_in _ (by omega)
          have u3 : IntKind.u64.wrap (r2 : Int) = (r2 : Int) := IntWalk.u64_in _ (by omega)
          obtain ⟨p, hp⟩ : ∃ p, p = 7 - k := ⟨_, rfl⟩
          rw [← hp] at w7
          have cB := hB.cell p (by omega)
          have fB := hB.frozen p
          have lp : (p : Int) < 8 := by omega
          have Hp := Lib.hid hp
          have Hr1 := Lib.hid hr1
          have Hr2 := Lib.hid hr2
          clear hp hr1 hr2
          go_wp2
          go_roundw
          case rel =>
            refine ⟨k + 1, by omega, by go_num, ?_, ?_, hbl.setCell (Nat.le_refl _) _⟩
            · rw [← Hq2.out, Hr2.out]
            · refine (hB.set p _).congr fun i hi => ?_
              have es := St.out i
              unfold bv
              rw [es, ← Hp.out, ← Hr1.out]
              by_cases c : i = p
              · rw [if_pos c, if_pos c, UInt8.toNat_ofNat']
                have := Hr1.out
                congr 1
                omega
              · rw [if_neg c, if_neg c]
          case measure => simp [intOf]; omega
        · have e : k = 8 := by omega
          subst e
          have hconv := run_convert_bytes_back (P := Tryz.prog) wr 63 9 5 ⟨w.heap.size, 0, none⟩ 8 (strL 8 (lenByte s.size)) ty53 ty5 ty9 (fun j hj => by
            have hj8 : j < 8 := by rw [strL_length] at hj; exact hj
            rw [Addr.add_mid, Nat.zero_add, hB.cell j hj8, strL_get]
            unfold bv endB
            rw [if_pos (by omega)])
          rw [strL_length] at hconv
          have fin : t ++ (⟨(strL 8 (lenByte s.size)).toArray⟩ : ByteArray) = padded s := by
            have h1 := HQ.out
            have h2 := Hr.out
            have hm : m + 8 = 64 * nbl s.size := by omega
            rw [Ht.out]
            unfold padded
            rw [← hm]
            exact str_add m 8 _ _ (fun i hi => by unfold pad; rw [if_neg (by omega), if_neg (by omega), if_neg (by omega), show m + i + 8 - 64 * nbl s.size = i by omega])
          have l8 : (strL 8 (lenByte s.size)).length = 8 := strL_length _ _
          generalize strL 8 (lenByte s.size) = L at hconv fin l8
          go_wp2
          go_ret
          exact ⟨rfl, hbl⟩
    · have b1 : ((r : Int) != 56) = true := by rw [bne_iff_ne]; omega
      go_wp2
      go_roundw
      case rel =>
        refine ⟨m + 1, t ++ ⟨#[0]⟩, by omega, ?_, rfl, ?_, trivial⟩
        · have h1 := HQ.out
          have h2 := Hr.out
          omega
        · rw [Ht.out]
          have h1 := HQ.out
          have h2 := Hr.out
          exact str_push _ _ _ (by unfold pad; rw [if_neg (by omega), if_neg (by omega), if_pos (by omega)])
      case measure =>
        have h1 := HQ.out
        have h2 := Hr.out
        have h3 := Hts.out
        have h5 : (t ++ (⟨#[0]⟩ : ByteArray)).size = t.size + 1 := by rw [ByteArray.size_append]; rfl
        simp only [sLen, h5, h3]
        omega
end Go.Proofs.YtnmjcpoobabjgaaGreatDoor.Dg
namespace Go.Proofs.YtnmjcpoobabjgaaGreatDoor.Dg
open Go.RowKit
def outB (s : Nat → W32) (k j : Nat) : UInt8 := if j < k then sByte s j else 0
theorem block_lit (st : Nat → W32) (b : ByteArray) (w : World) (hs : b.size = 64) :
    Calls Tryz.prog 81 #[.agg #[.int .u32 (U (st 0)), .int .u32 (U (st 1)), .int .u32 (U (st 2)), .int .u32 (U (st 3)), .int .u32 (U (st 4)), .int .u32 (U (st 5)), .int .u32 (U (st 6)), .int .u32 (U (st 7))], .string b] w fun e w' => e = .returned (.agg #[.int .u32 (U (cmpr st (sAt b) 0)), .int .u32 (U (cmpr st (sAt b) 1)), .int .u32 (U (cmpr st (sAt b) 2)), .int .u32 (U (cmpr st (sAt b) 3)), .int .u32 (U (cmpr st (sAt b) 4)), .int .u32 (U (cmpr st (sAt b) 5)), .int .u32 (U (cmpr st (sAt b) 6)), .int .u32 (U (cmpr st (sAt b) 7))]) ∧ Below w.heap.size w w' :=
  block_any st b w hs
theorem Blk.put8 {w : World} {g E : Nat} {st : Nat → W32} (h : Blk w g E 8 (wv st)) (c : Nat → W32) : Blk (((((((((w.setCell ⟨g, 0, none⟩ (.int .u32 (U (c 0)))).setCell ⟨g, 1, none⟩ (.int .u32 (U (c 1)))).setCell ⟨g, 2, none⟩ (.int .u32 (U (c 2)))).setCell ⟨g, 3, none⟩ (.int .u32 (U (c 3)))).setCell ⟨g, 4, none⟩ (.int .u32 (U (c 4)))).setCell ⟨g, 5, none⟩ (.int .u32 (U (c 5)))).setCell ⟨g, 6, none⟩ (.int .u32 (U (c 6)))).setCell ⟨g, 7, none⟩ (.int .u32 (U (c 7))))) g E 8 (wv c) := by
  refine ((((((((h.set 0 _).set 1 _).set 2 _).set 3 _).set 4 _).set 5 _).set 6 _).set 7 _).congr fun i hi => ?_
  match i, hi with
  | 0, _ => rfl
  | 1, _ => rfl
  | 2, _ => rfl
  | 3, _ => rfl
  | 4, _ => rfl
  | 5, _ => rfl
  | 6, _ => rfl
  | 7, _ => rfl
  | i + 8, h => omega
theorem Blk.other8 {w : World} {g b E n : Nat} {f : Nat → Value} (h : Blk w b E n f) (c : Nat → W32) (hne : g ≠ b) : Blk (((((((((w.setCell ⟨g, 0, none⟩ (.int .u32 (U (c 0)))).setCell ⟨g, 1, none⟩ (.int .u32 (U (c 1)))).setCell ⟨g, 2, none⟩ (.int .u32 (U (c 2)))).setCell ⟨g, 3, none⟩ (.int .u32 (U (c 3)))).setCell ⟨g, 4, none⟩ (.int .u32 (U (c 4)))).setCell ⟨g, 5, none⟩ (.int .u32 (U (c 5)))).setCell ⟨g, 6, none⟩ (.int .u32 (U (c 6)))).setCell ⟨g, 7, none⟩ (.int .u32 (U (c 7))))) b E n f :=
  (((((((h.setOther _ _ hne).setOther _ _ hne).setOther _ _ hne).setOther _ _ hne).setOther _ _ hne).setOther _ _ hne).setOther _ _ hne).setOther _ _ hne
theorem below8 {w0 w : World} {B g : Nat} (h : Below B w0 w) (c : Nat → W32) (hg : B ≤ g) : Below B w0 (((((((((w.setCell ⟨g, 0, none⟩ (.int .u32 (U (c 0)))).setCell ⟨g, 1, none⟩ (.int .u32 (U (c 1)))).setCell ⟨g, 2, none⟩ (.int .u32 (U (c 2)))).setCell ⟨g, 3, none⟩ (.int .u32 (U (c 3)))).setCell ⟨g, 4, none⟩ (.int .u32 (U (c 4)))).setCell ⟨g, 5, none⟩ (.int .u32 (U (c 5)))).setCell ⟨g, 6, none⟩ (.int .u32 (U (c 6)))).setCell ⟨g, 7, none⟩ (.int .u32 (U (c 7))))) :=
  (((((((h.setCell hg _).setCell hg _).setCell hg _).setCell hg _).setCell hg _).setCell hg _).setCell hg _).setCell hg _
set_option maxHeartbeats 2000000 in
set_option maxRecDepth 100000 in
theorem refsum_any (s : ByteArray) (w : World) (hs : s.size ≤ 1073741824) :
    Calls Tryz.prog 54 #[.string s] w fun e w' => e = .returned (.agg (arr 32 (bv (dig (sAt s) s.size)))) ∧ Below w.heap.size w w' := by
  obtain ⟨P, hP⟩ : ∃ P, P = pad (sAt s) s.size := ⟨_, rfl⟩
  obtain ⟨N, hN⟩ : ∃ N, N = nbl s.size := ⟨_, rfl⟩
  obtain ⟨all, hall⟩ : ∃ all, all = padded s := ⟨_, rfl⟩
  have hat : ∀ i, i < 64 * N → sAt all i = P i := fun i hi => by rw [hall, hP]; exact str_at _ _ i (by rw [← hN]; exact hi)
  have hsz : all.size = 64 * N := by rw [hall, hN]; exact str_size _ _
  have hNb : N ≤ 16777300 := by rw [hN]; unfold nbl; omega
  have hd : dig (sAt s) s.size = sByte (stB P N) := by rw [hP, hN]; rfl
  rw [hd]
  have R0 : Blk (w.alloc (.cells (arr 32 (bv fun _ => 0)) 37)) w.heap.size 37 32 (bv fun _ => 0) := Blk.newAt _ (heap_alloc_new _ _) rfl
  have L0 : ∀ A, Below w.heap.size w (w.alloc A) := fun A => (Below.refl _ _).alloc (Nat.le_refl _) _
  have HL := lengthened_any s
  rw [← hall] at HL
  have Hl := Lib.hid HL
  have Hat := Lib.hid hat
  clear hd HL hall hN hP hat
  go_enter Tryz.func54, Tryz.ntmps54
  go_wp2_with fail
  refine (Hl.out _ hs).mono ?_
  rintro e w1 ⟨rfl, hb1⟩
  have R1 := R0.below hb1 R0.lt
  have L1 := (L0 _).trans (hb1.mono (by simp))
  clear hb1 R0 L0 Hl
  go_upto_region 3 with (refine wpList_store_blk rfl 137 (.tmp 4) (.tmp 10) rfl w1.heap.size 8 (wv iv) (fun _ => .int .u32 0) rfl rfl 137 (Blk.newAt _ (heap_alloc_new _ _) rfl) sz31 (fun _ _ => rfl) ?_)
  rw [World.setRow_alloc_new]
  have S2 : Blk (w1.alloc (.cells (arr 8 (wv iv)) 137)) w1.heap.size 137 8 (wv iv) := Blk.newAt _ (heap_alloc_new _ _) rfl
  have R2 := R1.alloc (.cells (arr 8 (wv iv)) 137)
  have L2 := L1.alloc L1.size (.cells (arr 8 (wv iv)) 137)
  have h01 : w.heap.size < w1.heap.size := R1.lt
  clear R1 L1
  generalize w1.alloc (.cells (arr 8 (wv iv)) 137) = w2 at S2 R2 L2 ⊢
  generalize w1.heap.size = g1 at S2 h01 ⊢
  go_wp2
  go_loopw [5] (fun i wr => ∃ (m : Nat), m ≤ N ∧ i = .int .i64 ((64 * m : Nat) : Int) ∧ Blk wr g1 137 8 (wv (stB P m)) ∧ Blk wr w.heap.size 37 32 (bv fun _ => 0) ∧ Below w.heap.size w wr) (fun i _ => 64 * N - (intOf i).toNat)
  case atStart => exact ⟨0, by omega, rfl, S2, R2, L2⟩
  case round =>
    clear S2 R2 L2
    obtain ⟨m, hm, rfl, hS, hR, hbl⟩ := hrel
    obtain ⟨k, hk⟩ : ∃ k, k = 64 * m := ⟨_, rfl⟩
    rw [← hk]
    have Hk := Lib.hid hk
    by_cases hlt : m < N
    · have k1 : k + 64 ≤ all.size := by omega
      have zk : (0 : Int) ≤ (k : Int) := by omega
      have yk : (k : Int) < (all.size : Int) := by omega
      have xk : (k : Int) + 64 ≤ (all.size : Int) := by omega
      have vk : (k : Int) ≤ (k : Int) + 64 := by omega
      have uk : (0 : Int) ≤ (k : Int) + 64 := by omega
      have wk : IntKind.i64.wrap ((k : Int) + 64) = (k : Int) + 64 := IntWalk.i64_in _ (by omega)
      obtain ⟨st1, hst1⟩ : ∃ x, x = stB P m := ⟨_, rfl⟩
      rw [← hst1] at hS
      have Hst := Lib.hid hst1
      have tk : ((k : Int) + 64).toNat = k + 64 := by omega
      have Hsz := Lib.hid hsz
      have hss : (all.extract k (k + 64)).size = 64 := by rw [ByteArray.size_extract]; omega
      have hbs : Hid (∀ i, i < 64 → sAt (all.extract k (k + 64)) i = P (64 * m + i)) := fun i hi => by
        rw [sAt_ext all k (k + 64) i (by omega) k1 (by omega), Hat.out _ (by omega), Hk.out]
      clear hk hst1 hsz
      have c0 : wr.cell? ⟨g1, 0, none⟩ = some (.int .u32 (U (st1 0))) := hS.cell 0 (by omega)
      have c1 : wr.cell? ⟨g1, 1, none⟩ = some (.int .u32 (U (st1 1))) := hS.cell 1 (by omega)
      have c2 : wr.cell? ⟨g1, 2, none⟩ = some (.int .u32 (U (st1 2))) := hS.cell 2 (by omega)
      have c3 : wr.cell? ⟨g1, 3, none⟩ = some (.int .u32 (U (st1 3))) := hS.cell 3 (by omega)
      have c4 : wr.cell? ⟨g1, 4, none⟩ = some (.int .u32 (U (st1 4))) := hS.cell 4 (by omega)
      have c5 : wr.cell? ⟨g1, 5, none⟩ = some (.int .u32 (U (st1 5))) := hS.cell 5 (by omega)
      have c6 : wr.cell? ⟨g1, 6, none⟩ = some (.int .u32 (U (st1 6))) := hS.cell 6 (by omega)
      have c7 : wr.cell? ⟨g1, 7, none⟩ = some (.int .u32 (U (st1 7))) := hS.cell 7 (by omega)
      have hS5 := hS.drew
      have hR5 := hR.drew
      have hL5 := hbl.drew
      clear hS hR hbl
      go_wp2
      go_region_with ((go_at_call 81; refine (block_lit st1 (all.extract k (k + 64)) wr.drew hss).mono ?_; rintro e w6 ⟨rfl, hb6⟩; have hS6 := hS5.below hb6 hS5.lt; have hR6 := hR5.below hb6 hR5.lt; have hL6 := hL5.trans (hb6.mono hL5.size); clear hb6 c0 c1 c2 c3 c4 c5 c6 c7; have f0 := hS6.frozen 0; have f1 := hS6.frozen 1; have f2 := hS6.frozen 2; have f3 := hS6.frozen 3; have f4 := hS6.frozen 4; have f5 := hS6.frozen 5; have f6 := hS6.frozen 6; have f7 := hS6.frozen 7; have c0 := hS6.cell 0 (by omega); have c1 := hS6.cell 1 (by omega); have c2 := hS6.cell 2 (by omega); have c3 := hS6.cell 3 (by omega); have c4 := hS6.cell 4 (by omega); have c5 := hS6.cell 5 (by omega); have c6 := hS6.cell 6 (by omega); have c7 := hS6.cell 7 (by omega)))
      go_wp2
      go_roundw
      case rel =>
        refine ⟨m + 1, by omega, by have := Hk.out; go_num, ?_, hR6.other8 _ (by omega), below8 hL6 _ (by omega)⟩
        refine (hS6.put8 (cmpr st1 (sAt (all.extract k (k + 64))))).congr fun i hi => ?_
        unfold wv
        have e := Hst.out
        rw [cmpr_congr (t := stB P m) (g := fun i => P (64 * m + i)) (fun i _ => by rw [e]) (fun i hi => hbs.out i hi) i hi]
        rfl
      case measure => have := Hk.out; simp [intOf]; omega
    · have e : m = N := by omega
      subst e
      obtain ⟨sN, hsN⟩ : ∃ x, x = stB P m := ⟨_, rfl⟩
      rw [← hsN] at hS
      have Hs := Lib.hid hsN
      have Hsz := Lib.hid hsz
      clear hsN hlt hm
      have hS1 : ∀ A, Blk (wr.alloc A) g1 137 8 (wv sN) := fun A => hS.alloc A
      have hR1 : ∀ A, Blk (wr.alloc A) w.heap.size 37 32 (bv fun _ => 0) := fun A => hR.alloc A
      have hL1 : ∀ A, Below w.heap.size w (wr.alloc A) := fun A => hbl.alloc hbl.size A
      have hB1 : ∀ cs, cs = arr 32 (bv fun _ => 0) → Blk (wr.alloc (.cells cs 37)) wr.heap.size 37 32 (bv (outB sN 0)) := fun cs h => (Blk.newAt (bv fun _ => 0) (heap_alloc_new _ _) h).congr fun j _ => by unfold bv outB; rw [if_neg (by omega)]
      have hg1 : g1 < wr.heap.size := hS.lt
      have hle : all.size = 64 * m := Hsz.out
      have kk1 : ((k : Int) < (all.size : Int)) = False := by simp; omega
      clear hle
      have hlw : w.heap.size < wr.heap.size := by omega
      go_wp2
      clear kk1
      generalize wr.heap.size = g2 at hB1 hg1 hlw ⊢
      go_loopw [7] (fun i wq => ∃ (k : Nat), k ≤ 32 ∧ i = .int .i64 k ∧ Blk wq g2 37 32 (bv (outB sN k)) ∧ Blk wq g1 137 8 (wv sN) ∧ Blk wq w.heap.size 37 32 (bv fun _ => 0) ∧ Below w.heap.size w wq) (fun i _ => 32 - (intOf i).toNat)
      case atStart => exact ⟨0, by omega, rfl, hB1 _ rfl, hS1 _, hR1 _, hL1 _⟩
      case round =>
        clear hS hR hbl hS1 hR1 hL1 hB1
        obtain ⟨k, hk, rfl, hB, hS, hR, hbl⟩ := hrel
        by_cases hlt : k < 32
        · obtain ⟨q, hq⟩ : ∃ q, q = k / 4 := ⟨_, rfl⟩
          obtain ⟨j, hj⟩ : ∃ j, j = k % 4 := ⟨_, rfl⟩
          obtain ⟨d, hd⟩ : ∃ d, d = 24 - 8 * j := ⟨_, rfl⟩
          have hj4 : j < 4 := by omega
          have val := sByte_val sN q j hj4
          rw [← hd, show 4 * q + j = k by omega] at val
          have e1 : (k : Int).tdiv 4 = (q : Int) := by rw [Int.tdiv_eq_ediv_of_nonneg (by omega)]; omega
          have e2 : (k : Int).tmod 4 = (j : Int) := by rw [Int.tmod_eq_emod_of_nonneg (by omega)]; omega
          have e3 : (k : Int) / 4 = (q : Int) := by omega
          have e4 : (k : Int) % 4 = (j : Int) := by omega
          have w1 : IntKind.i64.wrap (q : Int) = (q : Int) := IntWalk.i64_in _ (by omega)
          have w2 : IntKind.i64.wrap (8 * (j : Int)) = 8 * (j : Int) := IntWalk.i64_in _ (by omega)
          have w3 : IntKind.i64.wrap (24 - 8 * (j : Int)) = (d : Int) := by rw [IntWalk.i64_in _ (by omega)]; omega
          have w4 : IntKind.u64.wrap (d : Int) = (d : Int) := IntWalk.u64_in _ (by omega)
          have zq : (q : Int) < 8 := by omega
          have cS : wr.cell? ⟨g1, q, none⟩ = some (.int .u32 (U (sN q))) := hS.cell q (by omega)
          have cB := hB.cell k hlt
          have fB := hB.frozen k
          have zk : (k : Int) < 32 := by omega
          have lU := U_ge (sN q)
          have Hval := Lib.hid val
          have ev : IntKind.u8.wrap (U (sN q) / 2 ^ d) = ((sByte sN k).toNat : Int) := by rw [← val]; rfl
          have md : min d 32 = d := by omega
          have Hmd := Lib.hid md
          clear hq hj hd val md
          go_wp2
          go_roundw
          case rel =>
            refine ⟨k + 1, by omega, by go_num, ?_, hS.setOther _ _ (by show g2 ≠ g1; omega), hR.setOther _ _ (by show g2 ≠ _; omega), hbl.setCell (by show _ ≤ g2; omega) _⟩
            refine (hB.set k _).congr fun i hi => ?_
            unfold bv outB
            by_cases c : i = k
            · subst c
              simp only [if_pos, Nat.lt_succ_self]
              rw [Hmd.out]
              exact congrArg (Value.int .u8) Hval.out
            · rw [if_neg c]
              by_cases c2 : i < k
              · rw [if_pos c2, if_pos (by omega)]
              · rw [if_neg c2, if_neg (by omega)]
          case measure => simp [intOf]; omega
        · have e : k = 32 := by omega
          subst e
          have hB2 : Blk wr g2 37 32 (bv (sByte sN)) := hB.congr fun i hi => by unfold bv outB; rw [if_pos hi]
          have hR2 := hR.setRow (bv (sByte sN))
          have hb2 := below_setRow hbl (Nat.le_refl _) (arr 32 (bv (sByte sN)))
          go_wp2_with (first | (refine wpList_load_blk rfl 37 (.tmp 6) rfl g2 rfl 37 32 (bv (sByte sN)) hB2 _ ty26 rfl sz26 ?_) | (refine wpList_store_blk rfl 37 (.tmp 2) (.tmp 41) rfl w.heap.size 32 (bv (sByte sN)) (bv (fun _ => 0)) rfl rfl 37 hR sz26 (fun _ _ => rfl) ?_))
          generalize wr.setRow w.heap.size (arr 32 (bv (sByte sN))) = w3 at hR2 hb2 ⊢
          refine bodyPost_ret (v := .agg (arr 32 (bv (sByte sN)))) (results_blk rfl _ _ w.heap.size 37 32 _ hR2 _ rfl ty26 rfl sz26) rfl ⟨?_, hb2⟩
          rw [Hs.out]
end Go.Proofs.YtnmjcpoobabjgaaGreatDoor.Dg
