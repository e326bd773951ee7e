import Derived.Test.YtlbclfponongbaaGreatDoorDW4m
import Derived.Test.YtlbclfponongbaaGreatDoorDW7m
namespace Go.Proofs.YtlbclfponongbaaGreatDoor.Dg
open Go.RowKit
/- the document's words: sums for ors, ors for exclusive ors -/
theorem ch_or (e f g : W32) : (e &&& f) ||| (~~~e &&& g) = (e &&& f) ^^^ (~~~e &&& g) := by
  apply BitVec.eq_of_getLsbD_eq
  intro i hi
  simp only [BitVec.getLsbD_or, BitVec.getLsbD_xor, BitVec.getLsbD_and, BitVec.getLsbD_not]
  cases e.getLsbD i <;> cases f.getLsbD i <;> cases g.getLsbD i <;> simp
theorem maj_or (a b c : W32) : (a &&& b) ||| (a &&& c) ||| (b &&& c) = (a &&& b) ^^^ (a &&& c) ^^^ (b &&& c) := by
  apply BitVec.eq_of_getLsbD_eq
  intro i hi
  simp only [BitVec.getLsbD_or, BitVec.getLsbD_xor, BitVec.getLsbD_and]
  cases a.getLsbD i <;> cases b.getLsbD i <;> cases c.getLsbD i <;> rfl
theorem X8_bit (b : UInt8) (i : Nat) (h : 8 ≤ i) : (X8 b).getLsbD i = false := by
  unfold X8
  rw [BitVec.getLsbD_setWidth]
  rw [BitVec.getLsbD_of_ge _ _ h, Bool.and_false]
theorem wd_sum (f : Nat → UInt8) (j : Nat) : X8 (f (4 * j)) <<< 24 + X8 (f (4 * j + 1)) <<< 16 + X8 (f (4 * j + 2)) <<< 8 + X8 (f (4 * j + 3)) = wd f j := by
  unfold wd
  generalize f (4 * j) = a
  generalize f (4 * j + 1) = b
  generalize f (4 * j + 2) = c
  generalize f (4 * j + 3) = d
  have h1 : X8 a <<< 24 &&& X8 b <<< 16 = 0#32 := by
    apply BitVec.eq_of_getLsbD_eq
    intro i hi
    simp only [BitVec.getLsbD_and, BitVec.getLsbD_shiftLeft, BitVec.getLsbD_zero]
    by_cases c1 : i < 24
    · simp [c1]
    · rw [X8_bit b (i - 16) (by omega)]; simp
  have h2 : (X8 a <<< 24 ||| X8 b <<< 16) &&& X8 c <<< 8 = 0#32 := by
    apply BitVec.eq_of_getLsbD_eq
    intro i hi
    simp only [BitVec.getLsbD_and, BitVec.getLsbD_or, BitVec.getLsbD_shiftLeft, BitVec.getLsbD_zero]
    by_cases c1 : i < 16
    · have c2 : i < 24 := by omega
      simp [c1, c2]
    · rw [X8_bit c (i - 8) (by omega)]; simp
  have h3 : (X8 a <<< 24 ||| X8 b <<< 16 ||| X8 c <<< 8) &&& X8 d = 0#32 := by
    apply BitVec.eq_of_getLsbD_eq
    intro i hi
    simp only [BitVec.getLsbD_and, BitVec.getLsbD_or, BitVec.getLsbD_shiftLeft, BitVec.getLsbD_zero]
    by_cases c1 : i < 8
    · have c2 : i < 24 := by omega
      have c3 : i < 16 := by omega
      simp [c1, c2, c3]
    · rw [X8_bit d i (by omega)]; simp
  rw [BitVec.add_eq_or_of_and_eq_zero _ _ h1, BitVec.add_eq_or_of_and_eq_zero _ _ h2, BitVec.add_eq_or_of_and_eq_zero _ _ h3]
attribute [local go_sem] U_xor U_and U_or U_add U_addm U_shl U_shr U_shlm U_shrm U_xor3 U_xor10
set_option maxHeartbeats 400000 in
theorem right_any (x : W32) (n : Nat) (w : World) (h0 : 0 < n) (h1 : n < 32) :
    Calls Tryz.prog 73 #[.int .u32 (U x), .int .u64 (n : Int)] w fun e w' => e = .returned (.int .u32 (U (rr x n))) ∧ w = w' := by
  have e1 : IntKind.u64.wrap (32 - (n : Int)) = ((32 - n : Nat) : Int) := by rw [IntWalk.u64_in _ (by omega)]; omega
  have l0 := U_ge x
  have l1 := U_lt x
  go_enter Tryz.func73, Tryz.ntmps73
  go_wp2
  go_ret
  unfold rr
  rw [BitVec.or_comm]
  exact ⟨rfl, rfl⟩
theorem right_at (x : W32) (k : Int) (n : Nat) (w : World) (hk : k = n) (h0 : 0 < n) (h1 : n < 32) :
    Calls Tryz.prog 73 #[.int .u32 (U x), .int .u64 k] w fun e w' => e = .returned (.int .u32 (U (rr x n))) ∧ w = w' := by
  subst hk; exact right_any x n w h0 h1
def kr : List Int := [1116352408, 1899447441, 3049323471, 3921009573, 961987163, 1508970993, 2453635748, 2870763221, 3624381080, 310598401, 607225278, 1426881987, 1925078388, 2162078206, 2614888103, 3248222580, 3835390401, 4022224774, 264347078, 604807628, 770255983, 1249150122, 1555081692, 1996064986, 2554220882, 2821834349, 2952996808, 3210313671, 3336571891, 3584528711, 113926993, 338241895, 666307205, 773529912, 1294757372, 1396182291, 1695183700, 1986661051, 2177026350, 2456956037, 2730485921, 2820302411, 3259730800, 3345764771, 3516065817, 3600352804, 4094571909, 275423344, 430227734, 506948616, 659060556, 883997877, 958139571, 1322822218, 1537002063, 1747873779, 1955562222, 2024104815, 2227730452, 2361852424, 2428436474, 2756734187, 3204031479, 3329325298]
theorem kr_kk : ∀ i, i < 64 → kr.getD i 0 = U (kk i) := by decide +kernel
def zr : List Value := [.int .u32 0, .int .u32 0, .int .u32 0, .int .u32 0, .int .u32 0, .int .u32 0, .int .u32 0, .int .u32 0, .int .u32 0, .int .u32 0, .int .u32 0, .int .u32 0, .int .u32 0, .int .u32 0, .int .u32 0, .int .u32 0, .int .u32 0, .int .u32 0, .int .u32 0, .int .u32 0, .int .u32 0, .int .u32 0, .int .u32 0, .int .u32 0, .int .u32 0, .int .u32 0, .int .u32 0, .int .u32 0, .int .u32 0, .int .u32 0, .int .u32 0, .int .u32 0, .int .u32 0, .int .u32 0, .int .u32 0, .int .u32 0, .int .u32 0, .int .u32 0, .int .u32 0, .int .u32 0, .int .u32 0, .int .u32 0, .int .u32 0, .int .u32 0, .int .u32 0, .int .u32 0, .int .u32 0, .int .u32 0, .int .u32 0, .int .u32 0, .int .u32 0, .int .u32 0, .int .u32 0, .int .u32 0, .int .u32 0, .int .u32 0, .int .u32 0, .int .u32 0, .int .u32 0, .int .u32 0, .int .u32 0, .int .u32 0, .int .u32 0, .int .u32 0]
theorem zero64 : zr.toArray = arr 64 (fun _ => .int .u32 0) := by rfl
theorem kr_arr : (kr.map (Value.int .u32)).toArray = arr 64 (wv kk) := by
  apply Array.ext
  · rw [arr_size]; rfl
  · intro i h1 h2
    rw [arr_size] at h2
    have e := kr_kk i h2
    have h3 : i < kr.length := h2
    rw [List.getD_eq_getElem?_getD, List.getElem?_eq_getElem h3] at e
    simp only [List.getElem_toArray, List.getElem_map]
    have e2 := arr_get 64 (wv kk) i h2
    rw [Array.getElem?_eq_getElem (by rw [arr_size]; exact h2)] at e2
    rw [Option.some.inj e2]
    exact congrArg (Value.int .u32) e
set_option maxHeartbeats 1000000 in
set_option maxRecDepth 100000 in
theorem rounds_any (w : World) :
    Calls Tryz.prog 74 #[] w fun e w' => e = .returned (.agg (arr 64 (wv kk))) ∧ Below w.heap.size w w' := by
  have N0 : ∀ cs, cs = arr 64 (fun _ => .int .u32 0) → Blk (w.alloc (.cells cs 117)) w.heap.size 117 64 (fun _ => .int .u32 0) := fun cs h => Blk.newAt _ (heap_alloc_new _ _) h
  go_enter Tryz.func74, Tryz.ntmps74
  go_wp2_with (refine wpList_store_blk rfl 117 (.tmp 0) (.tmp 1) rfl w.heap.size 64 (wv kk) (fun _ => .int .u32 0) rfl (congrArg Value.agg kr_arr) 117 (N0 _ zero64) sz58 (fun _ _ => rfl) ?_)
  rw [World.setRow_alloc_new]
  have L1 : Below w.heap.size w (w.alloc (.cells (arr 64 (wv kk)) 117)) := (Below.refl _ _).alloc (Nat.le_refl _) _
  have B1 : Blk (w.alloc (.cells (arr 64 (wv kk)) 117)) w.heap.size 117 64 (wv kk) := Blk.newAt _ (heap_alloc_new _ _) rfl
  generalize w.alloc (.cells (arr 64 (wv kk)) 117) = w1 at L1 B1 ⊢
  refine bodyPost_ret (v := .agg (arr 64 (wv kk))) (results_blk rfl _ _ w.heap.size 117 64 (wv kk) B1 _ rfl ty58 rfl sz58) rfl ⟨rfl, L1⟩
end Go.Proofs.YtlbclfponongbaaGreatDoor.Dg
namespace Go.Proofs.YtlbclfponongbaaGreatDoor.Dg
open Go.RowKit
attribute [local go_sem] U_xor U_and U_or U_add U_addm U_shl U_shr U_shlm U_shrm U_w8 U_shl24 U_shl16 U_shl8 U_xor3 U_xor10 U_not ch_or maj_or
theorem right_k (x : W32) (k : Int) (w : World) (h0 : 0 < k) (h1 : k < 32) :
    Calls Tryz.prog 73 #[.int .u32 (U x), .int .u64 k] w fun e w' => e = .returned (.int .u32 (U (rr x k.toNat))) ∧ w = w' :=
  right_at x k k.toNat w (by omega) (by omega) (by omega)
set_option maxHeartbeats 4000000 in
set_option maxRecDepth 100000 in
theorem block_any (st : Nat → W32) (b : ByteArray) (w : World) (hs : b.size = 64) :
    Calls Tryz.prog 53 #[.agg (arr 8 (wv st)), .string b] w fun e w' => e = .returned (.agg (arr 8 (wv (cmpr st (sAt b))))) ∧ Below w.heap.size w w' := by
  have S0 : ∀ A B, Blk (((w.alloc (.cells (arr 8 (wv st)) 92)).alloc A).alloc B) w.heap.size 92 8 (wv st) := fun A B => (Blk.newAt _ (heap_alloc2_old w _ _) rfl : Blk ((w.alloc (.cells (arr 8 (wv st)) 92)).alloc A) w.heap.size 92 8 (wv st)).alloc B
  have R0 : ∀ A B, Blk (((w.alloc A).alloc (.cells (arr 8 (fun _ => .int .u32 0)) 92)).alloc B) (w.heap.size + 1) 92 8 (fun _ => .int .u32 0) := fun A B => (Blk.newAt _ (heap_alloc2_new w _ _) rfl : Blk ((w.alloc A).alloc (.cells (arr 8 (fun _ => .int .u32 0)) 92)) (w.heap.size + 1) 92 8 (fun _ => .int .u32 0)).alloc B
  have L0 : ∀ A B C, Below w.heap.size w (((w.alloc A).alloc B).alloc C) := fun A B C => (((Below.refl _ _).alloc (Nat.le_refl _) _).alloc (by simp) _).alloc (by simp; omega) _
  have W0 : ∀ A B cs, cs = arr 64 (wv fun _ => 0#32) → Blk (((w.alloc A).alloc B).alloc (.cells cs 117)) (w.heap.size + 1 + 1) 117 64 (wv fun _ => 0#32) := fun A B cs h => by
    have h1 := heap_alloc_new ((w.alloc A).alloc B) (.cells cs 117)
    have e : ((w.alloc A).alloc B).heap.size = w.heap.size + 1 + 1 := by show ((w.heap.push A).push B).size = _; simp
    rw [e] at h1
    exact Blk.newAt _ h1 h
  have Hs := Lib.hid hs
  clear hs
  go_enter Tryz.func53, Tryz.ntmps53
  go_wp2
  go_loopw [6] (fun i wr => ∃ (k : Nat) (g : Nat → W32), k ≤ 16 ∧ i = .int .i64 k ∧ Blk wr (w.heap.size + 1 + 1) 117 64 (wv g) ∧ (∀ j, j < k → g j = wd (sAt b) j) ∧
     Blk wr w.heap.size 92 8 (wv st) ∧ Blk wr (w.heap.size + 1) 92 8 (fun _ => .int .u32 0) ∧ Below w.heap.size w wr) (fun i _ => 16 - (intOf i).toNat)
  case atStart => exact ⟨0, fun _ => 0#32, by omega, rfl, W0 _ _ _ (by rfl), fun j hj => absurd hj (by omega), S0 _ _, R0 _ _, L0 _ _ _⟩
  case round =>
    clear W0 S0 R0 L0
    obtain ⟨k, g, hk, rfl, hB, hg, hS, hR, hbl⟩ := hrel
    by_cases hlt : k < 16
    · have c0 := idx_str b (4 * k) (by have := Hs.out; omega)
      have c1 := idx_str b (4 * k + 1) (by have := Hs.out; omega)
      have c2 := idx_str b (4 * k + 2) (by have := Hs.out; omega)
      have c3 := idx_str b (4 * k + 3) (by have := Hs.out; omega)
      have p0 : ((4 * k : Nat) : Int) = 4 * (k : Int) := by omega
      have p1 : ((4 * k + 1 : Nat) : Int) = 4 * (k : Int) + 1 := by omega
      have p2 : ((4 * k + 2 : Nat) : Int) = 4 * (k : Int) + 2 := by omega
      have p3 : ((4 * k + 3 : Nat) : Int) = 4 * (k : Int) + 3 := by omega
      simp only [p0] at c0
      simp only [p1] at c1
      simp only [p2] at c2
      simp only [p3] at c3
      clear p0 p1 p2 p3
      have G := Lib.hid hg
      clear hg
      have E := Lib.hid (wd_sum (sAt b) k)
      generalize sAt b (4 * k) = b0 at c0 E
      generalize sAt b (4 * k + 1) = b1 at c1 E
      generalize sAt b (4 * k + 2) = b2 at c2 E
      generalize sAt b (4 * k + 3) = b3 at c3 E
      go_wp2
      have a0 : IntKind.i64.wrap (4 * (k : Int)) = 4 * k := IntWalk.i64_in _ (by omega)
      have a1 : IntKind.i64.wrap (4 * (k : Int) + 1) = 4 * k + 1 := IntWalk.i64_in _ (by omega)
      have a2 : IntKind.i64.wrap (4 * (k : Int) + 2) = 4 * k + 2 := IntWalk.i64_in _ (by omega)
      have a3 : IntKind.i64.wrap (4 * (k : Int) + 3) = 4 * k + 3 := IntWalk.i64_in _ (by omega)
      have zk : (0 : Int) ≤ (k : Int) := by omega
      have yk : (k : Int) < 64 := by omega
      go_still_tail 31, (by kernel_rfl)
      clear a0 a1 a2 a3 c0 c1 c2 c3
      change wpList _ _ _ _ _ wr.drew
      have hB2 := hB.drew
      have hS2 := hS.drew
      have hR2 := hR.drew
      have hbl2 := hbl.drew
      generalize wr.drew = w2 at hB2 hS2 hR2 hbl2 ⊢
      have f2 := hB2.frozen k
      have c2 := hB2.cell k (by omega)
      go_wp2
      go_roundw
      case rel =>
        refine ⟨k + 1, fun j => if j = k then wd (sAt b) k else g j, by omega, by go_num, ?_, ?_, hS2.setOther _ _ (by show w.heap.size + 1 + 1 ≠ _; omega), hR2.setOther _ _ (by show w.heap.size + 1 + 1 ≠ _; omega), hbl2.setCell (by show _ ≤ w.heap.size + 1 + 1; omega) _⟩
        · refine (hB2.set k _).congr fun i hi => ?_
          unfold wv
          by_cases e : i = k
          · simp only [if_pos e]
            rw [← E.out]
          · simp only [if_neg e]
        · intro j hj
          by_cases e : j = k
          · subst e; simp
          · simp [e]; exact G.out j (by omega)
      case measure => simp [intOf]; omega
    · have H : Hid (∀ j, j < 16 → g j = tab (wd (sAt b)) 0 j) := fun j hj => hg j (by omega)
      clear hg
      go_wp2
      go_loopw [7] (fun i wr => ∃ (k : Nat) (g : Nat → W32), 16 ≤ k ∧ k ≤ 64 ∧ i = .int .i64 k ∧ Blk wr (w.heap.size + 1 + 1) 117 64 (wv g) ∧ (∀ j, j < k → g j = tab (wd (sAt b)) (k - 16) j) ∧
          Blk wr w.heap.size 92 8 (wv st) ∧ Blk wr (w.heap.size + 1) 92 8 (fun _ => .int .u32 0) ∧ Below w.heap.size w wr) (fun i _ => 64 - (intOf i).toNat)
      case atStart => exact ⟨16, g, by omega, by omega, rfl, hB, H.out, hS, hR, hbl⟩
      case round =>
        clear hB H hS hR hbl g
        obtain ⟨k, g, hk16, hk, rfl, hB, hg, hS, hR, hbl⟩ := hrel
        have G := Lib.hid hg
        clear hg
        by_cases hlt : k < 64
        · have c0 : wr.cell? ⟨w.heap.size + 1 + 1, k - 2, none⟩ = some (.int .u32 (U (g (k - 2)))) := hB.cell (k - 2) (by omega)
          have c2 : wr.cell? ⟨w.heap.size + 1 + 1, k - 15, none⟩ = some (.int .u32 (U (g (k - 15)))) := hB.cell (k - 15) (by omega)
          have a0 : IntKind.i64.wrap ((k : Int) - 2) = k - 2 := IntWalk.i64_in _ (by omega)
          have a1 : IntKind.i64.wrap ((k : Int) - 7) = k - 7 := IntWalk.i64_in _ (by omega)
          have a2 : IntKind.i64.wrap ((k : Int) - 15) = k - 15 := IntWalk.i64_in _ (by omega)
          have a3 : IntKind.i64.wrap ((k : Int) - 16) = k - 16 := IntWalk.i64_in _ (by omega)
          have z0 : (0 : Int) ≤ (k : Int) - 2 := by omega
          have z1 : (0 : Int) ≤ (k : Int) - 7 := by omega
          have z2 : (0 : Int) ≤ (k : Int) - 15 := by omega
          have z3 : (0 : Int) ≤ (k : Int) - 16 := by omega
          have z4 : (0 : Int) ≤ (k : Int) := by omega
          have x0 : (2 : Int) ≤ (k : Int) := by omega
          have x1 : (7 : Int) ≤ (k : Int) := by omega
          have x2 : (15 : Int) ≤ (k : Int) := by omega
          have x3 : (16 : Int) ≤ (k : Int) := by omega
          have y0 : (k : Int) - 2 < 64 := by omega
          have y1 : (k : Int) - 7 < 64 := by omega
          have y2 : (k : Int) - 15 < 64 := by omega
          have y3 : (k : Int) - 16 < 64 := by omega
          have y4 : (k : Int) < 64 := by omega
          have t0 : ((k : Int) - 2).toNat = k - 2 := by omega
          have t1 : ((k : Int) - 7).toNat = k - 7 := by omega
          have t2 : ((k : Int) - 15).toNat = k - 15 := by omega
          have t3 : ((k : Int) - 16).toNat = k - 16 := by omega
          go_wp2
          go_quiet (fail)
          have hB1 := hB.drewN nq
          have hS1 := hS.drewN nq
          have hR1 := hR.drewN nq
          have hbl1 := below_drewN hbl nq
          clear hB hS hR hbl c0 c2
          generalize wr.drewN nq = w1 at hB1 hS1 hR1 hbl1 ⊢
          have c1 : w1.cell? ⟨w.heap.size + 1 + 1, k - 7, none⟩ = some (.int .u32 (U (g (k - 7)))) := hB1.cell (k - 7) (by omega)
          have c3 : w1.cell? ⟨w.heap.size + 1 + 1, k - 16, none⟩ = some (.int .u32 (U (g (k - 16)))) := hB1.cell (k - 16) (by omega)
          obtain ⟨y, hy⟩ : ∃ y, y = g (k - 2) := ⟨_, rfl⟩
          obtain ⟨x, hx⟩ : ∃ x, x = g (k - 15) := ⟨_, rfl⟩
          rw [← hy, ← hx]
          have ly := U_ge y
          have lx := U_ge x
          have Hy := Lib.hid hy
          have Hx := Lib.hid hx
          clear hy hx
          go_wp2
          go_still_tail 29, (by kernel_rfl)
          still_call ((right_at _ 17 17 _ rfl (by omega) (by omega)).mono fun e w' h => ⟨h.1, h.2.symm⟩)
          repeat still_step
          still_call ((right_at _ 19 19 _ rfl (by omega) (by omega)).mono fun e w' h => ⟨h.1, h.2.symm⟩)
          repeat still_step
          still_call ((right_at _ 7 7 _ rfl (by omega) (by omega)).mono fun e w' h => ⟨h.1, h.2.symm⟩)
          repeat still_step
          still_call ((right_at _ 18 18 _ rfl (by omega) (by omega)).mono fun e w' h => ⟨h.1, h.2.symm⟩)
          repeat still_step
          try refine wpStill_nil ?_
          clear a0 a1 a2 a3 t0 t1 t2 t3 c1 c3
          change wpList _ _ _ _ _ w1.drew
          have hB2 := hB1.drew
          have hS2 := hS1.drew
          have hR2 := hR1.drew
          have hbl2 := hbl1.drew
          clear hB1 hS1 hR1 hbl1
          generalize w1.drew = w2 at hB2 hS2 hR2 hbl2 ⊢
          have f2 := hB2.frozen k
          have c2 := hB2.cell k (by omega)
          go_wp2
          go_roundw
          case rel =>
            refine ⟨k + 1, fun j => if j = k then sS1 (g (k - 2)) + g (k - 7) + sS0 (g (k - 15)) + g (k - 16) else g j, by omega, by omega, by go_num, ?_, ?_, hS2.setOther _ _ (by show w.heap.size + 1 + 1 ≠ _; omega), hR2.setOther _ _ (by show w.heap.size + 1 + 1 ≠ _; omega), hbl2.setCell (by show _ ≤ w.heap.size + 1 + 1; omega) _⟩
            · refine (hB2.set k _).congr fun i hi => ?_
              have ex := Hx.out
              have ey := Hy.out
              unfold wv
              by_cases e : i = k
              · simp only [if_pos e]
                rw [ex, ey]
                rfl
              · simp only [if_neg e]
            · exact tab_step _ _ _ hk16 G.out
          case measure => simp [intOf]; omega
        · have e : k = 64 := by omega
          subst e
          clear hlt hk hk16
          have W := hB.congr (g := wv (sch (wd (sAt b)))) (fun i hi => by unfold wv; rw [G.out i hi]; rfl)
          clear hB G
          obtain ⟨ws, hws⟩ : ∃ ws, ws = sch (wd (sAt b)) := ⟨_, rfl⟩
          rw [← hws] at W
          have Hws := Lib.hid hws
          clear hws
          go_wp2_with fail
          refine (rounds_any _).mono ?_
          rintro e w1 ⟨rfl, hb1⟩
          have W1 := W.below hb1 W.lt
          have S1 := hS.below hb1 hS.lt
          have R1 := hR.below hb1 hR.lt
          have L1 := hbl.trans (hb1.mono hbl.size)
          clear hb1 W hS hR hbl
          go_upto_region 12 with (refine wpList_store_blk rfl 117 (.tmp 10) (.tmp 98) rfl w1.heap.size 64 (wv kk) (fun _ => .int .u32 0) rfl rfl 117 (Blk.newAt _ (heap_alloc_new _ _) zero64) sz58 (fun _ _ => rfl) ?_)
          rw [World.setRow_alloc_new]
          have K2 : Blk (w1.alloc (.cells (arr 64 (wv kk)) 117)) w1.heap.size 117 64 (wv kk) := Blk.newAt _ (heap_alloc_new _ _) rfl
          have W2 := W1.alloc (.cells (arr 64 (wv kk)) 117)
          have S2 := S1.alloc (.cells (arr 64 (wv kk)) 117)
          have R2 := R1.alloc (.cells (arr 64 (wv kk)) 117)
          have L2 := L1.alloc L1.size (.cells (arr 64 (wv kk)) 117)
          clear W1 S1 R1 L1
          generalize w1.alloc (.cells (arr 64 (wv kk)) 117) = w2 at K2 W2 S2 R2 L2 ⊢
          have c0 : w2.cell? ⟨w.heap.size, 0, none⟩ = some (.int .u32 (U (st 0))) := S2.cell 0 (by omega)
          have c1 : w2.cell? ⟨w.heap.size, 1, none⟩ = some (.int .u32 (U (st 1))) := S2.cell 1 (by omega)
          have c2 : w2.cell? ⟨w.heap.size, 2, none⟩ = some (.int .u32 (U (st 2))) := S2.cell 2 (by omega)
          have c3 : w2.cell? ⟨w.heap.size, 3, none⟩ = some (.int .u32 (U (st 3))) := S2.cell 3 (by omega)
          have c4 : w2.cell? ⟨w.heap.size, 4, none⟩ = some (.int .u32 (U (st 4))) := S2.cell 4 (by omega)
          have c5 : w2.cell? ⟨w.heap.size, 5, none⟩ = some (.int .u32 (U (st 5))) := S2.cell 5 (by omega)
          have c6 : w2.cell? ⟨w.heap.size, 6, none⟩ = some (.int .u32 (U (st 6))) := S2.cell 6 (by omega)
          have c7 : w2.cell? ⟨w.heap.size, 7, none⟩ = some (.int .u32 (U (st 7))) := S2.cell 7 (by omega)
          go_quiet (fail)
          go_wp2
          go_quiet (fail)
          clear c0 c1 c2 c3 c4 c5 c6 c7
          go_wp2
          go_loopw [11, 12, 13, 14, 15, 16, 17, 18, 19] (fun va vb vc vd ve vf vg vh i wr => ∃ (k : Nat) (s : St), k ≤ 64 ∧ i = .int .i64 k ∧ s = rnds ws (stOf st) k ∧
              va = .int .u32 (U s.a) ∧ vb = .int .u32 (U s.b) ∧ vc = .int .u32 (U s.c) ∧ vd = .int .u32 (U s.d) ∧ ve = .int .u32 (U s.e) ∧ vf = .int .u32 (U s.f) ∧ vg = .int .u32 (U s.g) ∧ vh = .int .u32 (U s.h) ∧
              Blk wr w.heap.size 92 8 (wv st) ∧ Blk wr (w.heap.size + 1) 92 8 (fun _ => .int .u32 0) ∧ Blk wr (w.heap.size + 1 + 1) 117 64 (wv ws) ∧ Blk wr w1.heap.size 117 64 (wv kk) ∧ Below w.heap.size w wr)
            (fun _ _ _ _ _ _ _ _ i _ => 64 - (intOf i).toNat)
          case atStart => exact ⟨0, stOf st, by omega, rfl, rfl, rfl, rfl, rfl, rfl, rfl, rfl, rfl, rfl, (S2.drewN _).drewN _, (R2.drewN _).drewN _, (W2.drewN _).drewN _, (K2.drewN _).drewN _, below_drewN (below_drewN L2 _) _⟩
          case round =>
            clear S2 R2 L2 W2 K2
            obtain ⟨k, s, hkk, rfl, hs, rfl, rfl, rfl, rfl, rfl, rfl, rfl, rfl, S2, R2, W2, K2, L2⟩ := hrel
            have Hs := Lib.hid hs
            clear hs
            by_cases hlt : k < 64
            · have ck : wr.cell? ⟨w1.heap.size, k, none⟩ = some (.int .u32 (U (kk k))) := K2.cell k hlt
              have cw : wr.cell? ⟨w.heap.size + 1 + 1, k, none⟩ = some (.int .u32 (U (ws k))) := W2.cell k hlt
              have zk : (0 : Int) ≤ (k : Int) := by omega
              have yk : (k : Int) < 64 := by omega
              go_wp2
              go_quiet ((go_at_call 73; exact Calls.quiet_of_same ((right_k _ _ _ (by decide) (by decide)).mono fun e w' h => ⟨h.1, h.2.symm⟩)))
              go_wp2_with (go_at_call 73; refine (right_k _ _ _ (by decide) (by decide)).mono ?_; rintro e w' ⟨rfl, rfl⟩)
              go_roundw
              case rel =>
                refine ⟨k + 1, rnd ws k s, by omega, by go_num, ?_, rfl, rfl, rfl, rfl, rfl, rfl, rfl, rfl, S2.drewN _, R2.drewN _, W2.drewN _, K2.drewN _, below_drewN L2 _⟩
                have := Hs.out
                rw [this]; rfl
              case measure => simp [intOf]; omega
            · have e : Hid (k = 64) := by show k = 64; omega
              have c0 : wr.cell? ⟨w.heap.size, 0, none⟩ = some (.int .u32 (U (st 0))) := S2.cell 0 (by omega)
              have c1 : wr.cell? ⟨w.heap.size, 1, none⟩ = some (.int .u32 (U (st 1))) := S2.cell 1 (by omega)
              have c2 : wr.cell? ⟨w.heap.size, 2, none⟩ = some (.int .u32 (U (st 2))) := S2.cell 2 (by omega)
              have c3 : wr.cell? ⟨w.heap.size, 3, none⟩ = some (.int .u32 (U (st 3))) := S2.cell 3 (by omega)
              have c4 : wr.cell? ⟨w.heap.size, 4, none⟩ = some (.int .u32 (U (st 4))) := S2.cell 4 (by omega)
              have c5 : wr.cell? ⟨w.heap.size, 5, none⟩ = some (.int .u32 (U (st 5))) := S2.cell 5 (by omega)
              have c6 : wr.cell? ⟨w.heap.size, 6, none⟩ = some (.int .u32 (U (st 6))) := S2.cell 6 (by omega)
              have c7 : wr.cell? ⟨w.heap.size, 7, none⟩ = some (.int .u32 (U (st 7))) := S2.cell 7 (by omega)
              go_wp2_with (refine wpList_store_blk rfl 92 (.tmp 4) (.tmp 210) rfl (w.heap.size + 1) 8 (fun i => .int .u32 (U (st i + ofSt s i))) (fun _ => .int .u32 0) rfl rfl 92 R2 sz31 (fun _ _ => rfl) ?_)
              have R3 := R2.setRow (fun i => .int .u32 (U (st i + ofSt s i)))
              have L3 := below_setRow L2 (Nat.le_succ _) (arr 8 (fun i => .int .u32 (U (st i + ofSt s i))))
              generalize wr.setRow (w.heap.size + 1) (arr 8 (fun i => .int .u32 (U (st i + ofSt s i)))) = w3 at R3 L3 ⊢
              refine bodyPost_ret (v := .agg (arr 8 (fun i => .int .u32 (U (st i + ofSt s i))))) (results_blk rfl _ _ (w.heap.size + 1) 92 8 _ R3 _ rfl ty31 rfl sz31) rfl ⟨?_, L3⟩
              have hk64 : k = 64 := e.out
              subst hk64
              have hs := Hs.out
              have hw := Hws.out
              subst hs
              subst hw
              exact congrArg (fun a => Ending.returned (.agg a)) (arr_congr fun i hi => rfl)
end Go.Proofs.YtlbclfponongbaaGreatDoor.Dg
