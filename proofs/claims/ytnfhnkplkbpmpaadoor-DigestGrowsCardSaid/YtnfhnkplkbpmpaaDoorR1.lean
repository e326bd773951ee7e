import Derived.Test.YtnfhnkplkbpmpaaDoorW4
namespace Go.Proofs.YtnfhnkplkbpmpaaDoor
open Go.RowKit
/- the document's words: sums for ors, ors for exclusive ors -/
theorem ch_or (e f g : W32) : (e &&& f) ||| (~~~e &&& g) = (e &&& f) ^^^ (~~~e &&& g) := by
  apply BitVec.eq_of_getLsbD_eq
  intro i hi
  simp only [BitVec.getLsbD_or, BitVec.getLsbD_xor, BitVec.getLsbD_and, BitVec.getLsbD_not]
  cases e.getLsbD i <;> cases f.getLsbD i <;> cases g.getLsbD i <;> simp
theorem maj_or (a b c : W32) : (a &&& b) ||| (a &&& c) ||| (b &&& c) = (a &&& b) ^^^ (a &&& c) ^^^ (b &&& c) := by
  apply BitVec.eq_of_getLsbD_eq
  intro i hi
  simp only [BitVec.getLsbD_or, BitVec.getLsbD_xor, BitVec.getLsbD_and]
  cases a.getLsbD i <;> cases b.getLsbD i <;> cases c.getLsbD i <;> rfl
theorem X8_bit (b : UInt8) (i : Nat) (h : 8 ≤ i) : (X8 b).getLsbD i = false := by
  unfold X8
  rw [BitVec.getLsbD_setWidth]
  rw [BitVec.getLsbD_of_ge _ _ h, Bool.and_false]
theorem wd_sum (f : Nat → UInt8) (j : Nat) : X8 (f (4 * j)) <<< 24 + X8 (f (4 * j + 1)) <<< 16 + X8 (f (4 * j + 2)) <<< 8 + X8 (f (4 * j + 3)) = wd f j := by
  unfold wd
  generalize f (4 * j) = a
  generalize f (4 * j + 1) = b
  generalize f (4 * j + 2) = c
  generalize f (4 * j + 3) = d
  have h1 : X8 a <<< 24 &&& X8 b <<< 16 = 0#32 := by
    apply BitVec.eq_of_getLsbD_eq
    intro i hi
    simp only [BitVec.getLsbD_and, BitVec.getLsbD_shiftLeft, BitVec.getLsbD_zero]
    by_cases c1 : i < 24
    · simp [c1]
    · rw [X8_bit b (i - 16) (by omega)]; simp
  have h2 : (X8 a <<< 24 ||| X8 b <<< 16) &&& X8 c <<< 8 = 0#32 := by
    apply BitVec.eq_of_getLsbD_eq
    intro i hi
    simp only [BitVec.getLsbD_and, BitVec.getLsbD_or, BitVec.getLsbD_shiftLeft, BitVec.getLsbD_zero]
    by_cases c1 : i < 16
    · have c2 : i < 24 := by omega
      simp [c1, c2]
    · rw [X8_bit c (i - 8) (by omega)]; simp
  have h3 : (X8 a <<< 24 ||| X8 b <<< 16 ||| X8 c <<< 8) &&& X8 d = 0#32 := by
    apply BitVec.eq_of_getLsbD_eq
    intro i hi
    simp only [BitVec.getLsbD_and, BitVec.getLsbD_or, BitVec.getLsbD_shiftLeft, BitVec.getLsbD_zero]
    by_cases c1 : i < 8
    · have c2 : i < 24 := by omega
      have c3 : i < 16 := by omega
      simp [c1, c2, c3]
    · rw [X8_bit d i (by omega)]; simp
  rw [BitVec.add_eq_or_of_and_eq_zero _ _ h1, BitVec.add_eq_or_of_and_eq_zero _ _ h2, BitVec.add_eq_or_of_and_eq_zero _ _ h3]
attribute [local go_sem] U_xor U_and U_or U_add U_addm U_shl U_shr U_shlm U_shrm U_xor3 U_xor10
set_option maxHeartbeats 400000 in
theorem right_any (x : W32) (n : Nat) (w : World) (h0 : 0 < n) (h1 : n < 32) :
    Calls Tryd.prog 29 #[.int .u32 (U x), .int .u64 (n : Int)] w fun e w' => e = .returned (.int .u32 (U (rr x n))) ∧ w = w' := by
  have e1 : IntKind.u64.wrap (32 - (n : Int)) = ((32 - n : Nat) : Int) := by rw [IntWalk.u64_in _ (by omega)]; omega
  have l0 := U_ge x
  have l1 := U_lt x
  go_enter Tryd.func29, Tryd.ntmps29
  go_wp2
  go_ret
  unfold rr
  rw [BitVec.or_comm]
  exact ⟨rfl, rfl⟩
theorem right_at (x : W32) (k : Int) (n : Nat) (w : World) (hk : k = n) (h0 : 0 < n) (h1 : n < 32) :
    Calls Tryd.prog 29 #[.int .u32 (U x), .int .u64 k] w fun e w' => e = .returned (.int .u32 (U (rr x n))) ∧ w = w' := by
  subst hk; exact right_any x n w h0 h1
def kr : List Int := [1116352408, 1899447441, 3049323471, 3921009573, 961987163, 1508970993, 2453635748, 2870763221, 3624381080, 310598401, 607225278, 1426881987, 1925078388, 2162078206, 2614888103, 3248222580, 3835390401, 4022224774, 264347078, 604807628, 770255983, 1249150122, 1555081692, 1996064986, 2554220882, 2821834349, 2952996808, 3210313671, 3336571891, 3584528711, 113926993, 338241895, 666307205, 773529912, 1294757372, 1396182291, 1695183700, 1986661051, 2177026350, 2456956037, 2730485921, 2820302411, 3259730800, 3345764771, 3516065817, 3600352804, 4094571909, 275423344, 430227734, 506948616, 659060556, 883997877, 958139571, 1322822218, 1537002063, 1747873779, 1955562222, 2024104815, 2227730452, 2361852424, 2428436474, 2756734187, 3204031479, 3329325298]
theorem kr_kk : ∀ i, i < 64 → kr.getD i 0 = U (kk i) := by decide +kernel
def zr : List Value := [.int .u32 0, .int .u32 0, .int .u32 0, .int .u32 0, .int .u32 0, .int .u32 0, .int .u32 0, .int .u32 0, .int .u32 0, .int .u32 0, .int .u32 0, .int .u32 0, .int .u32 0, .int .u32 0, .int .u32 0, .int .u32 0, .int .u32 0, .int .u32 0, .int .u32 0, .int .u32 0, .int .u32 0, .int .u32 0, .int .u32 0, .int .u32 0, .int .u32 0, .int .u32 0, .int .u32 0, .int .u32 0, .int .u32 0, .int .u32 0, .int .u32 0, .int .u32 0, .int .u32 0, .int .u32 0, .int .u32 0, .int .u32 0, .int .u32 0, .int .u32 0, .int .u32 0, .int .u32 0, .int .u32 0, .int .u32 0, .int .u32 0, .int .u32 0, .int .u32 0, .int .u32 0, .int .u32 0, .int .u32 0, .int .u32 0, .int .u32 0, .int .u32 0, .int .u32 0, .int .u32 0, .int .u32 0, .int .u32 0, .int .u32 0, .int .u32 0, .int .u32 0, .int .u32 0, .int .u32 0, .int .u32 0, .int .u32 0, .int .u32 0, .int .u32 0]
theorem zero64 : zr.toArray = arr 64 (fun _ => .int .u32 0) := by rfl
theorem kr_arr : (kr.map (Value.int .u32)).toArray = arr 64 (wv kk) := by
  apply Array.ext
  · rw [arr_size]; rfl
  · intro i h1 h2
    rw [arr_size] at h2
    have e := kr_kk i h2
    have h3 : i < kr.length := h2
    rw [List.getD_eq_getElem?_getD, List.getElem?_eq_getElem h3] at e
    simp only [List.getElem_toArray, List.getElem_map]
    have e2 := arr_get 64 (wv kk) i h2
    rw [Array.getElem?_eq_getElem (by rw [arr_size]; exact h2)] at e2
    rw [Option.some.inj e2]
    exact congrArg (Value.int .u32) e
set_option maxHeartbeats 1000000 in
set_option maxRecDepth 100000 in
theorem rounds_any (w : World) :
    Calls Tryd.prog 30 #[] w fun e w' => e = .returned (.agg (arr 64 (wv kk))) ∧ Below w.heap.size w w' := by
  have N0 : ∀ cs, cs = arr 64 (fun _ => .int .u32 0) → Blk (w.alloc (.cells cs 58)) w.heap.size 58 64 (fun _ => .int .u32 0) := fun cs h => Blk.newAt _ (heap_alloc_new _ _) h
  go_enter Tryd.func30, Tryd.ntmps30
  go_wp2_with (refine wpList_store_blk rfl 58 (.tmp 0) (.tmp 1) rfl w.heap.size 64 (wv kk) (fun _ => .int .u32 0) rfl (congrArg Value.agg kr_arr) 58 (N0 _ zero64) sz58 (fun _ _ => rfl) ?_)
  rw [World.setRow_alloc_new]
  have L1 : Below w.heap.size w (w.alloc (.cells (arr 64 (wv kk)) 58)) := (Below.refl _ _).alloc (Nat.le_refl _) _
  have B1 : Blk (w.alloc (.cells (arr 64 (wv kk)) 58)) w.heap.size 58 64 (wv kk) := Blk.newAt _ (heap_alloc_new _ _) rfl
  generalize w.alloc (.cells (arr 64 (wv kk)) 58) = w1 at L1 B1 ⊢
  refine bodyPost_ret (v := .agg (arr 64 (wv kk))) (results_blk rfl _ _ w.heap.size 58 64 (wv kk) B1 _ rfl ty58 rfl sz58) rfl ⟨rfl, L1⟩
end Go.Proofs.YtnfhnkplkbpmpaaDoor
