import Derived.Test.YtnfhnkplkbpmpaaDoorR2
import Derived.Test.YtnfhnkplkbpmpaaDoorR3
import Derived.Test.YtnfhnkplkbpmpaaDoorW13
namespace Go.Proofs.YtnfhnkplkbpmpaaDoor
open Go.RowKit
def outB (s : Nat → W32) (k j : Nat) : UInt8 := if j < k then sByte s j else 0
theorem block_lit (st : Nat → W32) (b : ByteArray) (w : World) (hs : b.size = 64) :
    Calls Tryd.prog 22 #[.agg #[.int .u32 (U (st 0)), .int .u32 (U (st 1)), .int .u32 (U (st 2)), .int .u32 (U (st 3)), .int .u32 (U (st 4)), .int .u32 (U (st 5)), .int .u32 (U (st 6)), .int .u32 (U (st 7))], .string b] w fun e w' => e = .returned (.agg #[.int .u32 (U (cmpr st (sAt b) 0)), .int .u32 (U (cmpr st (sAt b) 1)), .int .u32 (U (cmpr st (sAt b) 2)), .int .u32 (U (cmpr st (sAt b) 3)), .int .u32 (U (cmpr st (sAt b) 4)), .int .u32 (U (cmpr st (sAt b) 5)), .int .u32 (U (cmpr st (sAt b) 6)), .int .u32 (U (cmpr st (sAt b) 7))]) ∧ Below w.heap.size w w' :=
  block_any st b w hs
theorem Blk.put8 {w : World} {g E : Nat} {st : Nat → W32} (h : Blk w g E 8 (wv st)) (c : Nat → W32) : Blk (((((((((w.setCell ⟨g, 0, none⟩ (.int .u32 (U (c 0)))).setCell ⟨g, 1, none⟩ (.int .u32 (U (c 1)))).setCell ⟨g, 2, none⟩ (.int .u32 (U (c 2)))).setCell ⟨g, 3, none⟩ (.int .u32 (U (c 3)))).setCell ⟨g, 4, none⟩ (.int .u32 (U (c 4)))).setCell ⟨g, 5, none⟩ (.int .u32 (U (c 5)))).setCell ⟨g, 6, none⟩ (.int .u32 (U (c 6)))).setCell ⟨g, 7, none⟩ (.int .u32 (U (c 7))))) g E 8 (wv c) := by
  refine ((((((((h.set 0 _).set 1 _).set 2 _).set 3 _).set 4 _).set 5 _).set 6 _).set 7 _).congr fun i hi => ?_
  match i, hi with
  | 0, _ => rfl
  | 1, _ => rfl
  | 2, _ => rfl
  | 3, _ => rfl
  | 4, _ => rfl
  | 5, _ => rfl
  | 6, _ => rfl
  | 7, _ => rfl
  | i + 8, h => omega
theorem Blk.other8 {w : World} {g b E n : Nat} {f : Nat → Value} (h : Blk w b E n f) (c : Nat → W32) (hne : g ≠ b) : Blk (((((((((w.setCell ⟨g, 0, none⟩ (.int .u32 (U (c 0)))).setCell ⟨g, 1, none⟩ (.int .u32 (U (c 1)))).setCell ⟨g, 2, none⟩ (.int .u32 (U (c 2)))).setCell ⟨g, 3, none⟩ (.int .u32 (U (c 3)))).setCell ⟨g, 4, none⟩ (.int .u32 (U (c 4)))).setCell ⟨g, 5, none⟩ (.int .u32 (U (c 5)))).setCell ⟨g, 6, none⟩ (.int .u32 (U (c 6)))).setCell ⟨g, 7, none⟩ (.int .u32 (U (c 7))))) b E n f :=
  (((((((h.setOther _ _ hne).setOther _ _ hne).setOther _ _ hne).setOther _ _ hne).setOther _ _ hne).setOther _ _ hne).setOther _ _ hne).setOther _ _ hne
theorem below8 {w0 w : World} {B g : Nat} (h : Below B w0 w) (c : Nat → W32) (hg : B ≤ g) : Below B w0 (((((((((w.setCell ⟨g, 0, none⟩ (.int .u32 (U (c 0)))).setCell ⟨g, 1, none⟩ (.int .u32 (U (c 1)))).setCell ⟨g, 2, none⟩ (.int .u32 (U (c 2)))).setCell ⟨g, 3, none⟩ (.int .u32 (U (c 3)))).setCell ⟨g, 4, none⟩ (.int .u32 (U (c 4)))).setCell ⟨g, 5, none⟩ (.int .u32 (U (c 5)))).setCell ⟨g, 6, none⟩ (.int .u32 (U (c 6)))).setCell ⟨g, 7, none⟩ (.int .u32 (U (c 7))))) :=
  (((((((h.setCell hg _).setCell hg _).setCell hg _).setCell hg _).setCell hg _).setCell hg _).setCell hg _).setCell hg _
set_option maxHeartbeats 2000000 in
set_option maxRecDepth 100000 in
theorem refsum_any (s : ByteArray) (w : World) (hs : s.size ≤ 1073741824) :
    Calls Tryd.prog 11 #[.string s] w fun e w' => e = .returned (.agg (arr 32 (bv (dig (sAt s) s.size)))) ∧ Below w.heap.size w w' := by
  obtain ⟨P, hP⟩ : ∃ P, P = pad (sAt s) s.size := ⟨_, rfl⟩
  obtain ⟨N, hN⟩ : ∃ N, N = nbl s.size := ⟨_, rfl⟩
  obtain ⟨all, hall⟩ : ∃ all, all = padded s := ⟨_, rfl⟩
  have hat : ∀ i, i < 64 * N → sAt all i = P i := fun i hi => by rw [hall, hP]; exact str_at _ _ i (by rw [← hN]; exact hi)
  have hsz : all.size = 64 * N := by rw [hall, hN]; exact str_size _ _
  have hNb : N ≤ 16777300 := by rw [hN]; unfold nbl; omega
  have hd : dig (sAt s) s.size = sByte (stB P N) := by rw [hP, hN]; rfl
  rw [hd]
  have R0 : Blk (w.alloc (.cells (arr 32 (bv fun _ => 0)) 26)) w.heap.size 26 32 (bv fun _ => 0) := Blk.newAt _ (heap_alloc_new _ _) rfl
  have L0 : ∀ A, Below w.heap.size w (w.alloc A) := fun A => (Below.refl _ _).alloc (Nat.le_refl _) _
  have HL := lengthened_any s
  rw [← hall] at HL
  have Hl := Lib.hid HL
  have Hat := Lib.hid hat
  clear hd HL hall hN hP hat
  go_enter Tryd.func11, Tryd.ntmps11
  go_wp2_with fail
  refine (Hl.out _ hs).mono ?_
  rintro e w1 ⟨rfl, hb1⟩
  have R1 := R0.below hb1 R0.lt
  have L1 := (L0 _).trans (hb1.mono (by simp))
  clear hb1 R0 L0 Hl
  go_upto_region 3 with (refine wpList_store_blk rfl 31 (.tmp 4) (.tmp 10) rfl w1.heap.size 8 (wv iv) (fun _ => .int .u32 0) rfl rfl 31 (Blk.newAt _ (heap_alloc_new _ _) rfl) sz31 (fun _ _ => rfl) ?_)
  rw [World.setRow_alloc_new]
  have S2 : Blk (w1.alloc (.cells (arr 8 (wv iv)) 31)) w1.heap.size 31 8 (wv iv) := Blk.newAt _ (heap_alloc_new _ _) rfl
  have R2 := R1.alloc (.cells (arr 8 (wv iv)) 31)
  have L2 := L1.alloc L1.size (.cells (arr 8 (wv iv)) 31)
  have h01 : w.heap.size < w1.heap.size := R1.lt
  clear R1 L1
  generalize w1.alloc (.cells (arr 8 (wv iv)) 31) = w2 at S2 R2 L2 ⊢
  generalize w1.heap.size = g1 at S2 h01 ⊢
  go_wp2
  go_loopw [5] (fun i wr => ∃ (m : Nat), m ≤ N ∧ i = .int .i64 ((64 * m : Nat) : Int) ∧ Blk wr g1 31 8 (wv (stB P m)) ∧ Blk wr w.heap.size 26 32 (bv fun _ => 0) ∧ Below w.heap.size w wr) (fun i _ => 64 * N - (intOf i).toNat)
  case atStart => exact ⟨0, by omega, rfl, S2, R2, L2⟩
  case round =>
    clear S2 R2 L2
    obtain ⟨m, hm, rfl, hS, hR, hbl⟩ := hrel
    obtain ⟨k, hk⟩ : ∃ k, k = 64 * m := ⟨_, rfl⟩
    rw [← hk]
    have Hk := Lib.hid hk
    by_cases hlt : m < N
    · have k1 : k + 64 ≤ all.size := by omega
      have zk : (0 : Int) ≤ (k : Int) := by omega
      have yk : (k : Int) < (all.size : Int) := by omega
      have xk : (k : Int) + 64 ≤ (all.size : Int) := by omega
      have vk : (k : Int) ≤ (k : Int) + 64 := by omega
      have uk : (0 : Int) ≤ (k : Int) + 64 := by omega
      have wk : IntKind.i64.wrap ((k : Int) + 64) = (k : Int) + 64 := IntWalk.i64_in _ (by omega)
      obtain ⟨st1, hst1⟩ : ∃ x, x = stB P m := ⟨_, rfl⟩
      rw [← hst1] at hS
      have Hst := Lib.hid hst1
      have tk : ((k : Int) + 64).toNat = k + 64 := by omega
      have Hsz := Lib.hid hsz
      have hss : (all.extract k (k + 64)).size = 64 := by rw [ByteArray.size_extract]; omega
      have hbs : Hid (∀ i, i < 64 → sAt (all.extract k (k + 64)) i = P (64 * m + i)) := fun i hi => by
        rw [sAt_ext all k (k + 64) i (by omega) k1 (by omega), Hat.out _ (by omega), Hk.out]
      clear hk hst1 hsz
      have c0 : wr.cell? ⟨g1, 0, none⟩ = some (.int .u32 (U (st1 0))) := hS.cell 0 (by omega)
      have c1 : wr.cell? ⟨g1, 1, none⟩ = some (.int .u32 (U (st1 1))) := hS.cell 1 (by omega)
      have c2 : wr.cell? ⟨g1, 2, none⟩ = some (.int .u32 (U (st1 2))) := hS.cell 2 (by omega)
      have c3 : wr.cell? ⟨g1, 3, none⟩ = some (.int .u32 (U (st1 3))) := hS.cell 3 (by omega)
      have c4 : wr.cell? ⟨g1, 4, none⟩ = some (.int .u32 (U (st1 4))) := hS.cell 4 (by omega)
      have c5 : wr.cell? ⟨g1, 5, none⟩ = some (.int .u32 (U (st1 5))) := hS.cell 5 (by omega)
      have c6 : wr.cell? ⟨g1, 6, none⟩ = some (.int .u32 (U (st1 6))) := hS.cell 6 (by omega)
      have c7 : wr.cell? ⟨g1, 7, none⟩ = some (.int .u32 (U (st1 7))) := hS.cell 7 (by omega)
      have hS5 := hS.drew
      have hR5 := hR.drew
      have hL5 := hbl.drew
      clear hS hR hbl
      go_wp2
      go_region_with ((go_at_call 22; refine (block_lit st1 (all.extract k (k + 64)) wr.drew hss).mono ?_; rintro e w6 ⟨rfl, hb6⟩; have hS6 := hS5.below hb6 hS5.lt; have hR6 := hR5.below hb6 hR5.lt; have hL6 := hL5.trans (hb6.mono hL5.size); clear hb6 c0 c1 c2 c3 c4 c5 c6 c7; have f0 := hS6.frozen 0; have f1 := hS6.frozen 1; have f2 := hS6.frozen 2; have f3 := hS6.frozen 3; have f4 := hS6.frozen 4; have f5 := hS6.frozen 5; have f6 := hS6.frozen 6; have f7 := hS6.frozen 7; have c0 := hS6.cell 0 (by omega); have c1 := hS6.cell 1 (by omega); have c2 := hS6.cell 2 (by omega); have c3 := hS6.cell 3 (by omega); have c4 := hS6.cell 4 (by omega); have c5 := hS6.cell 5 (by omega); have c6 := hS6.cell 6 (by omega); have c7 := hS6.cell 7 (by omega)))
      go_wp2
      go_roundw
      case rel =>
        refine ⟨m + 1, by omega, by have := Hk.out; go_num, ?_, hR6.other8 _ (by omega), below8 hL6 _ (by omega)⟩
        refine (hS6.put8 (cmpr st1 (sAt (all.extract k (k + 64))))).congr fun i hi => ?_
        unfold wv
        have e := Hst.out
        rw [cmpr_congr (t := stB P m) (g := fun i => P (64 * m + i)) (fun i _ => by rw [e]) (fun i hi => hbs.out i hi) i hi]
        rfl
      case measure => have := Hk.out; simp [intOf]; omega
    · have e : m = N := by omega
      subst e
      obtain ⟨sN, hsN⟩ : ∃ x, x = stB P m := ⟨_, rfl⟩
      rw [← hsN] at hS
      have Hs := Lib.hid hsN
      have Hsz := Lib.hid hsz
      clear hsN hlt hm
      have hS1 : ∀ A, Blk (wr.alloc A) g1 31 8 (wv sN) := fun A => hS.alloc A
      have hR1 : ∀ A, Blk (wr.alloc A) w.heap.size 26 32 (bv fun _ => 0) := fun A => hR.alloc A
      have hL1 : ∀ A, Below w.heap.size w (wr.alloc A) := fun A => hbl.alloc hbl.size A
      have hB1 : ∀ cs, cs = arr 32 (bv fun _ => 0) → Blk (wr.alloc (.cells cs 26)) wr.heap.size 26 32 (bv (outB sN 0)) := fun cs h => (Blk.newAt (bv fun _ => 0) (heap_alloc_new _ _) h).congr fun j _ => by unfold bv outB; rw [if_neg (by omega)]
      have hg1 : g1 < wr.heap.size := hS.lt
      have hle : all.size = 64 * m := Hsz.out
      have kk1 : ((k : Int) < (all.size : Int)) = False := by simp; omega
      clear hle
      have hlw : w.heap.size < wr.heap.size := by omega
      go_wp2
      clear kk1
      generalize wr.heap.size = g2 at hB1 hg1 hlw ⊢
      go_loopw [7] (fun i wq => ∃ (k : Nat), k ≤ 32 ∧ i = .int .i64 k ∧ Blk wq g2 26 32 (bv (outB sN k)) ∧ Blk wq g1 31 8 (wv sN) ∧ Blk wq w.heap.size 26 32 (bv fun _ => 0) ∧ Below w.heap.size w wq) (fun i _ => 32 - (intOf i).toNat)
      case atStart => exact ⟨0, by omega, rfl, hB1 _ rfl, hS1 _, hR1 _, hL1 _⟩
      case round =>
        clear hS hR hbl hS1 hR1 hL1 hB1
        obtain ⟨k, hk, rfl, hB, hS, hR, hbl⟩ := hrel
        by_cases hlt : k < 32
        · obtain ⟨q, hq⟩ : ∃ q, q = k / 4 := ⟨_, rfl⟩
          obtain ⟨j, hj⟩ : ∃ j, j = k % 4 := ⟨_, rfl⟩
          obtain ⟨d, hd⟩ : ∃ d, d = 24 - 8 * j := ⟨_, rfl⟩
          have hj4 : j < 4 := by omega
          have val := sByte_val sN q j hj4
          rw [← hd, show 4 * q + j = k by omega] at val
          have e1 : (k : Int).tdiv 4 = (q : Int) := by rw [Int.tdiv_eq_ediv_of_nonneg (by omega)]; omega
          have e2 : (k : Int).tmod 4 = (j : Int) := by rw [Int.tmod_eq_emod_of_nonneg (by omega)]; omega
          have e3 : (k : Int) / 4 = (q : Int) := by omega
          have e4 : (k : Int) % 4 = (j : Int) := by omega
          have w1 : IntKind.i64.wrap (q : Int) = (q : Int) := IntWalk.i64_in _ (by omega)
          have w2 : IntKind.i64.wrap (8 * (j : Int)) = 8 * (j : Int) := IntWalk.i64_in _ (by omega)
          have w3 : IntKind.i64.wrap (24 - 8 * (j : Int)) = (d : Int) := by rw [IntWalk.i64_in _ (by omega)]; omega
          have w4 : IntKind.u64.wrap (d : Int) = (d : Int) := IntWalk.u64_in _ (by omega)
          have zq : (q : Int) < 8 := by omega
          have cS : wr.cell? ⟨g1, q, none⟩ = some (.int .u32 (U (sN q))) := hS.cell q (by omega)
          have cB := hB.cell k hlt
          have fB := hB.frozen k
          have zk : (k : Int) < 32 := by omega
          have lU := U_ge (sN q)
          have Hval := Lib.hid val
          have ev : IntKind.u8.wrap (U (sN q) / 2 ^ d) = ((sByte sN k).toNat : Int) := by rw [← val]; rfl
          have md : min d 32 = d := by omega
          have Hmd := Lib.hid md
          clear hq hj hd val md
          go_wp2
          go_roundw
          case rel =>
            refine ⟨k + 1, by omega, by go_num, ?_, hS.setOther _ _ (by show g2 ≠ g1; omega), hR.setOther _ _ (by show g2 ≠ _; omega), hbl.setCell (by show _ ≤ g2; omega) _⟩
            refine (hB.set k _).congr fun i hi => ?_
            unfold bv outB
            by_cases c : i = k
            · subst c
              simp only [if_pos, Nat.lt_succ_self]
              rw [Hmd.out]
              exact congrArg (Value.int .u8) Hval.out
            · rw [if_neg c]
              by_cases c2 : i < k
              · rw [if_pos c2, if_pos (by omega)]
              · rw [if_neg c2, if_neg (by omega)]
          case measure => simp [intOf]; omega
        · have e : k = 32 := by omega
          subst e
          have hB2 : Blk wr g2 26 32 (bv (sByte sN)) := hB.congr fun i hi => by unfold bv outB; rw [if_pos hi]
          have hR2 := hR.setRow (bv (sByte sN))
          have hb2 := below_setRow hbl (Nat.le_refl _) (arr 32 (bv (sByte sN)))
          go_wp2_with (first | (refine wpList_load_blk rfl 26 (.tmp 6) rfl g2 rfl 26 32 (bv (sByte sN)) hB2 _ ty26 rfl sz26 ?_) | (refine wpList_store_blk rfl 26 (.tmp 2) (.tmp 41) rfl w.heap.size 32 (bv (sByte sN)) (bv (fun _ => 0)) rfl rfl 26 hR sz26 (fun _ _ => rfl) ?_))
          generalize wr.setRow w.heap.size (arr 32 (bv (sByte sN))) = w3 at hR2 hb2 ⊢
          refine bodyPost_ret (v := .agg (arr 32 (bv (sByte sN)))) (results_blk rfl _ _ w.heap.size 26 32 _ hR2 _ rfl ty26 rfl sz26) rfl ⟨?_, hb2⟩
          rw [Hs.out]
end Go.Proofs.YtnfhnkplkbpmpaaDoor
