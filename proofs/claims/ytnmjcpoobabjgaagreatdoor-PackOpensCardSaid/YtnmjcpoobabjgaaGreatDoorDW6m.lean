import Derived.Test.YtnmjcpoobabjgaaGreatDoorDW3m
import Derived.Deep.RegionHeld3
import Derived.Laws.Concat
import Derived.Test.YtnmjcpoobabjgaaGreatDoorO13m
set_option linter.unusedVariables false
set_option linter.unusedSimpArgs false
namespace Go.Proofs.YtnmjcpoobabjgaaGreatDoor.Dg
open Go.RowKit
theorem zero5 : ∀ w, (zeroValue 5).run Tryz.prog w = .ok (.int .u8 0) w := fun _ => by kernel_rfl
theorem blk_cleared {w : World} {hb : Nat} {st : Nat → W32} {blk : Nat → UInt8} {n r : Nat} (h : Blk w hb 156 73 (hv st (fun i => if i = r then 0x80 else blk i) n)) (hr : r < 64) :
  Blk (w.setCells hb (8 + (r + 1)) (List.replicate (63 - r) (Value.int .u8 0))) hb 156 73 (hv st (b1Of blk r) n) := (h.setCells (List.replicate (63 - r) (Value.int .u8 0)) (8 + (r + 1))).congr fun i hi => by
 rw [List.length_replicate]
 unfold hv
 by_cases c : 8 + (r + 1) ≤ i ∧ i < 8 + (r + 1) + (63 - r)
 ·rw [if_pos c, if_neg (by omega), if_pos (by omega)]
  rw [List.getD_eq_getElem?_getD, List.getElem?_replicate, if_pos (by omega)]
  simp only [Option.getD_some, bv, b1Of]
  rw [if_neg (by omega), if_neg (by omega)]; rfl
 ·rw [if_neg c]
  by_cases c8 : i < 8
  ·rw [if_pos c8, if_pos c8]
  ·rw [if_neg c8, if_neg c8]
   by_cases c72 : i < 72
   ·rw [if_pos c72, if_pos c72]
    unfold bv b1Of
    simp only []
    by_cases ce : i - 8 = r
    ·rw [if_pos ce, if_neg (by omega), if_pos ce]
    ·rw [if_neg ce, if_pos (by omega)]
   ·rw [if_neg c72, if_neg c72]
theorem blk_wiped {w : World} {hb : Nat} {st : Nat → W32} {blk : Nat → UInt8} {n : Nat} (h : Blk w hb 156 73 (hv st blk n)) :
  Blk (w.setCells hb 8 (List.replicate 64 (Value.int .u8 0))) hb 156 73 (hv st (fun _ => 0) n) := (h.setCells (List.replicate 64 (Value.int .u8 0)) 8).congr fun i hi => by
 rw [List.length_replicate]
 unfold hv
 by_cases c : 8 ≤ i ∧ i < 8 + 64
 ·rw [if_pos c, if_neg (by omega), if_pos (by omega)]
  rw [List.getD_eq_getElem?_getD, List.getElem?_replicate, if_pos (by omega)]; rfl
 ·rw [if_neg c]
  by_cases c8 : i < 8
  ·rw [if_pos c8, if_pos c8]
  ·rw [if_neg c8, if_neg c8, if_neg (by omega), if_neg (by omega)]
theorem blk_last {w : World} {hb : Nat} {st : Nat → W32} {blk : Nat → UInt8} {n r : Nat} (h : Blk w hb 156 73 (hv st (fun i => if i = r then 0x80 else blk i) n)) (hr : r = 63) :
  Blk w hb 156 73 (hv st (b1Of blk r) n) := h.congr fun i hi => by
 unfold hv
 by_cases c8 : i < 8
 ·rw [if_pos c8, if_pos c8]
 ·rw [if_neg c8, if_neg c8]
  by_cases c72 : i < 72
  ·rw [if_pos c72, if_pos c72]
   unfold bv b1Of
   simp only []
   by_cases ce : i - 8 = r
   ·rw [if_pos ce, if_neg (by omega), if_pos ce]
   ·rw [if_neg ce, if_pos (by omega)]
  ·rw [if_neg c72, if_neg c72]
theorem after8 {w0 w : World} {hb n R : Nat} {st : Nat → W32} {blk : Nat → UInt8} (h : Blk w hb 156 73 (hv st blk n)) (hg : w0.grownBy w (some hb)) (hR : Blk w R 37 32 (bv fun _ => 0)) (hne : R ≠ hb) (c : Nat → W32) :
  ∃ w', w' = ((((((((w.setCell ⟨hb, 0, none⟩ (.int .u32 (U (c 0)))).setCell ⟨hb, 1, none⟩ (.int .u32 (U (c 1)))).setCell ⟨hb, 2, none⟩ (.int .u32 (U (c 2)))).setCell ⟨hb, 3, none⟩ (.int .u32 (U (c 3)))).setCell ⟨hb, 4, none⟩ (.int .u32 (U (c 4)))).setCell ⟨hb, 5, none⟩ (.int .u32 (U (c 5)))).setCell ⟨hb, 6, none⟩ (.int .u32 (U (c 6)))).setCell ⟨hb, 7, none⟩ (.int .u32 (U (c 7)))) ∧
   Blk w' hb 156 73 (hv c blk n) ∧ w0.grownBy w' (some hb) ∧ Blk w' R 37 32 (bv fun _ => 0) :=
 ⟨_, rfl, h.set8 c, grown8 hg _ _ _ _ _ _ _ _, hR.grown (grown8 (grown_refl w _) _ _ _ _ _ _ _ _) hne⟩
theorem wpList_clear0 {P : Program} {w : World} {ops : Array Oper} {rest : List Oper} {o : Oper} {a : Act} {Q : Exit → Act → World → Prop} (hgd : o.guard = none) (hdst : o.dst = none) (d : Operand) (dT : TypeId)
  (ho : o.op = .call { callee := .builtin .clear, args := #[d], argTypes := #[dT] }) (elem : TypeId) (hu : P.underlying dT = some (.slice elem))
  (ad : Option Addr) (c : Nat) (hd : a.eval d = .slice ad 0 c)
  (h : wpList P ops Q rest a w) : wpList P ops Q (o :: rest) a w := by
 refine wpList_plain hgd fun K hK => ?_
 have hrun : (Builtin.clear_ #[dT] o.type #[.slice ad 0 c]).run P w = .ok (.tuple #[]) w := by
  cases ad <;> simp [Builtin.clear_, run_underlying hu]
 unfold Oper.wp
 simp [execOp, ho, resolve, invoke, builtin, hd, hrun, Result.andThen]
 have e : a.put o.dst (.tuple #[]) = a := by rw [hdst]; rfl
 exact hK _ _ (by rw [e]; exact h)
/- what holds of the world while the digest is made -/
def SI (w : World) (hb : Nat) (s : Nat → W32) (b : Nat → UInt8) (n : Nat) (w' : World) : Prop :=
 Blk w' hb 156 73 (hv s b n) ∧ w'.there w.heap.size 0 32 ∧ w.grownBy w' (some hb) ∧ w.heap.size < w'.heap.size
theorem SI.below {w w1 w2 : World} {hb s b n} (h : SI w hb s b n w1) (hb1 : Below w1.heap.size w1 w2) : SI w hb s b n w2 :=
 ⟨h.1.below hb1 h.1.lt, fun j hj => ⟨by rw [hb1.cell h.2.2.2]; exact (h.2.1 j hj).1, by rw [hb1.frozen h.2.2.2]; exact (h.2.1 j hj).2⟩, grown_trans h.2.2.1 (grown_below hb1 _), Nat.lt_of_lt_of_le h.2.2.2 hb1.size⟩
theorem SI.store {w w1 : World} {hb s b n} (h : SI w hb s b n w1) (hlt : hb < w.heap.size) (cs : List Value) : SI w hb s b n (w1.setCells w.heap.size 0 cs) :=
 ⟨h.1.grown (setCells_grown w.heap.size cs 0 w1) (by omega), World.there_setCells h.2.1 _ _ _, by
  have k := setCells_grown w.heap.size cs 0 w1
  exact ⟨k.os.trans h.2.2.1.os, k.tape.trans h.2.2.1.tape, k.output.trans h.2.2.1.output, Nat.le_trans h.2.2.1.size k.size, fun i hi hne => (k.block i (Nat.lt_of_lt_of_le hi h.2.2.1.size) (by simp; omega)).trans (h.2.2.1.block i hi hne)⟩,
  Nat.lt_of_lt_of_le h.2.2.2 (setCells_grown w.heap.size cs 0 w1).size⟩
theorem SI.drew {w w1 : World} {hb s b n} (h : SI w hb s b n w1) : SI w hb s b n w1.drew := ⟨h.1.drew, h.2.1, grown_trans h.2.2.1 (grown_drewN w1 1 _), h.2.2.2⟩
theorem SI.cells {w w' : World} {hb s b n} (h : SI w hb s b n w') {cs : List Value} (hcl : cs.length = 32) : w'.cell? ⟨hb, 0, none⟩ = some (.int .u32 (U (s 0))) ∧ w'.cell? ⟨hb, 1, none⟩ = some (.int .u32 (U (s 1))) ∧ w'.cell? ⟨hb, 2, none⟩ = some (.int .u32 (U (s 2))) ∧ w'.cell? ⟨hb, 3, none⟩ = some (.int .u32 (U (s 3))) ∧
  w'.cell? ⟨hb, 4, none⟩ = some (.int .u32 (U (s 4))) ∧ w'.cell? ⟨hb, 5, none⟩ = some (.int .u32 (U (s 5))) ∧ w'.cell? ⟨hb, 6, none⟩ = some (.int .u32 (U (s 6))) ∧ w'.cell? ⟨hb, 7, none⟩ = some (.int .u32 (U (s 7))) ∧ w'.there w.heap.size 0 cs.length ∧ SI w hb s b n w' :=
 ⟨h.1.cell 0 (by omega), h.1.cell 1 (by omega), h.1.cell 2 (by omega), h.1.cell 3 (by omega), h.1.cell 4 (by omega), h.1.cell 5 (by omega), h.1.cell 6 (by omega), h.1.cell 7 (by omega), by rw [hcl]; exact h.2.1, h⟩
theorem results_mid {P : Program} {fn : Func} {p : Tmp} {ty : TypeId} (h : fn.results = #[.cell p ty]) (tmps : Array Value) (w : World) (g : Nat) (cs : List Value) (d : TypeDesc)
  (hp : tmps.getD p undef = .pointer (some ⟨g, 0, none⟩)) (hr : w.rangeAt g 0 cs) (hu : P.underlying ty = some d) (hd : d.isRow = true) (hi : (P.info? ty).map (·.size) = some cs.length) :
  (results fn tmps).run P w = .ok (.agg cs.toArray) w := by
 have hp' : tmps[p]?.getD undef = .pointer (some ⟨g, 0, none⟩) := by simpa using hp
 simp [results, h, hp', asAddr, run_loadVar_mid w g 0 ty cs d hr hu hd hi]
theorem bytes_lit (s : Nat → W32) (cs : List Value) (hcs : cs = (arr 32 (bv (sByte s))).toList) (w : World) :
  Calls Tryz.prog 115 #[.agg #[.int .u32 (U (s 0)), .int .u32 (U (s 1)), .int .u32 (U (s 2)), .int .u32 (U (s 3)), .int .u32 (U (s 4)), .int .u32 (U (s 5)), .int .u32 (U (s 6)), .int .u32 (U (s 7))]] w fun e w' => e = .returned (.agg (List.toArray cs)) ∧ Below w.heap.size w w' := by
 have h := bytes_any s w
 rw [show arr 8 (wv s) = #[.int .u32 (U (s 0)), .int .u32 (U (s 1)), .int .u32 (U (s 2)), .int .u32 (U (s 3)), .int .u32 (U (s 4)), .int .u32 (U (s 5)), .int .u32 (U (s 6)), .int .u32 (U (s 7))] from rfl] at h
 refine h.mono fun e w' hh => ⟨?_, hh.2⟩
 rw [hh.1, hcs, Array.toArray_toList]
theorem bv_oneCell {cs : List Value} {s : Nat → W32} (hcs : cs = (arr 32 (bv (sByte s))).toList) : ∀ v ∈ cs, v.oneCell' = true := by
 intro v hv
 rw [hcs, Array.mem_toList_iff] at hv
 unfold arr at hv
 rw [Array.mem_ofFn] at hv
 obtain ⟨i, rfl⟩ := hv
 rfl
set_option maxHeartbeats 2000000 in
set_option maxRecDepth 100000 in
theorem end_any (d : Nat → UInt8) (st : Nat → W32) (blk : Nat → UInt8) (n hb : Nat) (w : World) (hn : n ≤ 1073741824) (hB : Blk w hb 156 73 (hv st blk n)) (hI : Inv d st blk n)
  (hh : hb ≠ 1) (hk : ∀ i, i < 64 → w.cell? ⟨1, i, none⟩ = some (wv kk i)) :
  Calls Tryz.prog 91 #[.pointer (some ⟨hb, 0, none⟩)] w fun e w' => e = .returned (.agg (arr 32 (bv (dig d n)))) ∧ w.grownBy w' (some hb) := by
 have hlt := hB.lt
 have HK := Lib.hid hk
 clear hk
 obtain ⟨r, hr⟩ : ∃ r, r = n % 64 := ⟨_, rfl⟩
 have hr64 : r < 64 := by omega
 have er : (n : Int) % 64 = (r : Int) := by omega
 have Hr := Lib.hid hr
 clear hr
 have zr : (0 : Int) ≤ (r : Int) := by omega
 have yr' : (r : Int) < 64 := by omega
 go_enter Tryz.func91, Tryz.ntmps91
 go_wp2_with fail
 refine (begin_any st blk n hb _ (by omega) (hB.alloc _)).mono ?_
 rintro e w1 ⟨rfl, hB1, hg1⟩
 obtain ⟨st1, hst1⟩ : ∃ x, x = (if n = 0 then iv else st) := ⟨_, rfl⟩
 rw [← hst1] at hB1
 have Hst := Lib.hid hst1
 clear hst1
 have R1 : Blk w1 w.heap.size 37 32 (bv fun _ => 0) := Blk.grown (Blk.newAt (E := 37) (n := 32) (bv fun _ => 0) (heap_alloc_new w _) (by rfl)) hg1 (by omega)
 have hg2 : w.grownBy w1 (some hb) := grown_trans (grown_below ((Below.refl _ _).alloc (Nat.le_refl _) _) _) hg1
 clear hB hg1
 have c72 : w1.cell? ⟨hb, 72, none⟩ = some (.int .u64 (n : Int)) := hB1.cell 72 (by omega)
 have cr := hB1.cell (8 + r) (by omega)
 have fr := hB1.frozen (8 + r)
 go_upto_region 4 with fail
 rw [er]
 have hB2 : Blk (w1.setCell ⟨hb, 8 + r, none⟩ (.int .u8 128)) hb 156 73 (hv st1 (fun i => if i = r then 0x80 else blk i) n) := (hB1.set (8 + r) _).congr fun i hi => by
  unfold hv
  by_cases c : i = 8 + r
  ·subst c; rw [if_pos rfl, if_neg (by omega), if_pos (by omega), show 8 + r - 8 = r by omega]; simp [bv]
  ·rw [if_neg c]
   by_cases c8 : i < 8
   ·rw [if_pos c8, if_pos c8]
   ·rw [if_neg c8, if_neg c8]
    by_cases c72 : i < 72
    ·rw [if_pos c72, if_pos c72]; unfold bv; simp only []; rw [if_neg (by omega)]
    ·rw [if_neg c72, if_neg c72]
 have R2 := R1.setOther ⟨hb, 8 + r, none⟩ (.int .u8 128) (by simp; omega)
 have hg3 := grown_trans hg2 (grown_setCell w1 hb (8 + r) (.int .u8 128))
 clear hB1 R1 hg2 c72 cr fr
 generalize w1.setCell ⟨hb, 8 + r, none⟩ (.int .u8 128) = w2 at hB2 R2 hg3 ⊢
 have e64 : IntKind.u64.wrap (8 * (n : Int)) = 8 * (n : Int) := IntWalk.u64_in _ (by omega)
 by_cases h56 : r < 56
 ·have hne : ¬ (64 = r + 1) := by omega
  have s1 : (0 : Int) ≤ (r : Int) + 1 := by omega
  have s2 : (r : Int) + 1 ≤ 64 := by omega
  have s3 : ((r : Int) + 1).toNat = r + 1 := by omega
  go_upto_region 8 with (refine wpList_clear rfl rfl (.tmp 23) 63 rfl 5 (.int .u8 0) ty53 zero5 rfl rfl hb (8 + (r + 1)) (63 - r) (63 - r) (by omega) rfl (hB2.there _ _ (by omega)) ?_)
  clear s1 s2 s3 hne
  have hB3 := blk_cleared hB2 hr64
  have R3 := R2.grown (setCells_grown hb (List.replicate (63 - r) (Value.int .u8 0)) (8 + (r + 1)) w2) (by omega)
  have hg4 := grown_trans hg3 (setCells_grown hb (List.replicate (63 - r) (Value.int .u8 0)) (8 + (r + 1)) w2)
  clear hB2 R2 hg3
  generalize w2.setCells hb (8 + (r + 1)) (List.replicate (63 - r) (Value.int .u8 0)) = w3 at hB3 R3 hg4 ⊢
  have c72 : w3.cell? ⟨hb, 72, none⟩ = some (.int .u64 (n : Int)) := hB3.cell 72 (by omega)
  obtain ⟨s2, b2, hfin, hBx⟩ : ∃ s2 b2, Hid (∀ i, i < 8 → cmpr s2 (bLen b2 n 8) i = stB (pad d n) (nbl n) i) ∧ Blk w3 hb 156 73 (hv s2 b2 n) := ⟨st1, b1Of blk r, by
   have h1 := Hst.out
   have h2 := Hr.out
   subst h1 h2
   exact fin_short hI h56, hB3⟩
  clear hB3
  go_wp2_with fail
  go_loopw [46] (fun i wr => ∃ k : Nat, k ≤ 8 ∧ i = .int .i64 k ∧ Blk wr hb 156 73 (hv s2 (bLen b2 n k) n) ∧ Blk wr w.heap.size 37 32 (bv fun _ => 0) ∧ w.grownBy wr (some hb)) (fun i _ => 8 - (intOf i).toNat)
  case atStart => exact ⟨0, by omega, rfl, by rw [bLen_zero]; exact hBx, R3, hg4⟩
  case round =>
   clear hBx R3 hg4 c72
   obtain ⟨k, hk8, rfl, hB4, R4, hg5⟩ := hrel
   by_cases hlt8 : k < 8
   ·have a0 : IntKind.i64.wrap (56 + (k : Int)) = 56 + (k : Int) := IntWalk.i64_in _ (by omega)
    have a1 : IntKind.i64.wrap (8 * (k : Int)) = 8 * (k : Int) := IntWalk.i64_in _ (by omega)
    have a2 : IntKind.i64.wrap (56 - 8 * (k : Int)) = 56 - 8 * (k : Int) := IntWalk.i64_in _ (by omega)
    have z0 : (0 : Int) ≤ 56 + (k : Int) := by omega
    have z1 : (0 : Int) ≤ 56 - 8 * (k : Int) := by omega
    have z1' : (8 : Int) * (k : Int) ≤ 56 := by omega
    have z2 : 56 + (k : Int) < 64 := by omega
    have z3 : 56 - 8 * (k : Int) ≤ 64 := by omega
    have t0 : (56 + (k : Int)).toNat = 56 + k := by omega
    have t1 : (56 - 8 * (k : Int)).toNat = 56 - 8 * k := by omega
    go_wp2
    go_still_tail 12, (by kernel_rfl)
    clear a0 a1 a2 t0 t1
    change wpList _ _ _ _ _ wr.drew
    have hB5 := hB4.drew
    have R5 := R4.drew
    have hg6 : w.grownBy wr.drew (some hb) := grown_trans hg5 (grown_drewN wr 1 _)
    clear hB4 R4 hg5
    generalize wr.drew = w5 at hB5 R5 hg6 ⊢
    have cB := hB5.cell (8 + (56 + k)) (by omega)
    have fB := hB5.frozen (8 + (56 + k))
    go_wp2
    go_roundw
    case rel =>
     refine ⟨k + 1, by omega, by go_num, ?_, R5.setOther _ _ (by simp; omega), grown_trans hg6 (grown_setCell _ _ _ _)⟩
     refine (hB5.set (8 + (56 + k)) _).congr fun i hi => ?_
     unfold hv
     by_cases c : i = 8 + (56 + k)
     ·subst c
      rw [if_pos rfl, if_neg (by omega), if_pos (by omega), show 8 + (56 + k) - 8 = 56 + k by omega]
      unfold bv
      rw [← bLen_step, if_pos rfl, ← lenByte_val n k hlt8]
     ·rw [if_neg c]
      by_cases c8 : i < 8
      ·rw [if_pos c8, if_pos c8]
      ·rw [if_neg c8, if_neg c8]
       by_cases c72 : i < 72
       ·rw [if_pos c72, if_pos c72]; unfold bv; rw [← bLen_step, if_neg (by omega)]
       ·rw [if_neg c72, if_neg c72]
    case measure => simp [intOf]; omega
   ·have hk8' : k = 8 := by omega
    subst hk8'
    go_wp2_with fail
    have hSI0 : SI w hb s2 (bLen b2 n 8) n wr.drew := SI.drew ⟨hB4, R4.there 0 32 (by omega), hg5, R4.lt⟩
    have Hk0 : Hid (∀ i, i < 64 → wr.drew.cell? ⟨1, i, none⟩ = some (wv kk i)) := fun i hi => cell_grown hSI0.2.2.1 (HK.out i hi) (by simpa using Ne.symm hh)
    have Hc0 : Hid (∀ i, i < 64 → wr.drew.cell? ⟨hb, 8 + i, none⟩ = some (.int .u8 ((bLen b2 n 8 i).toNat : Int))) := fun i hi => by
     rw [hSI0.1.cell (8 + i) (by omega)]; unfold hv; rw [if_neg (by omega), if_pos (by omega), show 8 + i - 8 = i by omega]; rfl
    obtain ⟨cs, hcs⟩ : ∃ cs, cs = (arr 32 (bv (sByte (cmpr s2 (bLen b2 n 8))))).toList := ⟨_, rfl⟩
    have hone := bv_oneCell hcs
    have hcl : cs.length = 32 := by rw [hcs, Array.length_toList, arr_size]
    have Hcs := Lib.hid hcs
    have Hcl := Lib.hid hcl
    have hi26 : (Tryz.prog.info? 37).map (·.size) = some cs.length := by rw [hcl]; exact sz26
    clear hcs hcl hB4 R4 hg5
    go_region_held3 (fun w' => w'.cell? ⟨hb, 0, none⟩ = some (.int .u32 (U (s2 0))) ∧ w'.cell? ⟨hb, 1, none⟩ = some (.int .u32 (U (s2 1))) ∧ w'.cell? ⟨hb, 2, none⟩ = some (.int .u32 (U (s2 2))) ∧ w'.cell? ⟨hb, 3, none⟩ = some (.int .u32 (U (s2 3))) ∧
     w'.cell? ⟨hb, 4, none⟩ = some (.int .u32 (U (s2 4))) ∧ w'.cell? ⟨hb, 5, none⟩ = some (.int .u32 (U (s2 5))) ∧ w'.cell? ⟨hb, 6, none⟩ = some (.int .u32 (U (s2 6))) ∧ w'.cell? ⟨hb, 7, none⟩ = some (.int .u32 (U (s2 7))) ∧ w'.there w.heap.size 0 cs.length ∧ SI w hb s2 (bLen b2 n 8) n w')
     (first | exact hSI0.cells Hcl.out | exact hSI1.cells Hcl.out | exact hSI2.cells Hcl.out | exact (SI.store hSI2 hlt cs).cells Hcl.out)
     (first | (go_at_call 114; refine (turned_lit s2 hb 8 (bLen b2 n 8) wr.drew Hc0.out hSI0.1.lt Hk0.out).mono ?_; rintro e w6 ⟨rfl, hb6⟩; have hSI1 := hSI0.below hb6) | (go_at_call 115; refine (bytes_lit (cmpr s2 (bLen b2 n 8)) cs Hcs.out _).mono ?_; rintro e w7 ⟨rfl, hb7⟩; have hSI2 := hSI1.below hb7))
    have hS3 := SI.store hSI2 hlt cs
    have hr3 : (w7.setCells w.heap.size 0 cs).rangeAt w.heap.size 0 cs := World.rangeAt_setCells_same _ _ _ _ (by rw [Hcl.out]; exact hSI2.2.1)
    generalize w7.setCells w.heap.size 0 cs = w8 at hS3 hr3 ⊢
    go_wp2
    refine bodyPost_ret (v := .agg cs.toArray) (results_mid rfl _ _ w.heap.size cs _ rfl hr3 ty26 rfl hi26) rfl ⟨?_, hS3.2.2.1⟩
    have hc := Hcs.out
    rw [hc, Array.toArray_toList]
    exact congrArg (fun a => Ending.returned (.agg a)) (arr_congr fun i hi => by unfold bv dig; rw [sByte_congr hfin.out i hi])
 ·by_cases h63 : r < 63
  ·have hne : ¬ (64 = r + 1) := by omega
   have s1 : (0 : Int) ≤ (r : Int) + 1 := by omega
   have s2 : (r : Int) + 1 ≤ 64 := by omega
   have s3 : ((r : Int) + 1).toNat = r + 1 := by omega
   have g56 : (56 : Int) ≤ (r : Int) := by omega
   go_upto_region 6 with (refine wpList_clear rfl rfl (.tmp 23) 63 rfl 5 (.int .u8 0) ty53 zero5 rfl rfl hb (8 + (r + 1)) (63 - r) (63 - r) (by omega) rfl (hB2.there _ _ (by omega)) ?_)
   clear s1 s2 s3 hne
   have hB3 := blk_cleared hB2 hr64
   have R3 := R2.grown (setCells_grown hb (List.replicate (63 - r) (Value.int .u8 0)) (8 + (r + 1)) w2) (by omega)
   have hg4 := grown_trans hg3 (setCells_grown hb (List.replicate (63 - r) (Value.int .u8 0)) (8 + (r + 1)) w2)
   clear hB2 R2 hg3
   generalize w2.setCells hb (8 + (r + 1)) (List.replicate (63 - r) (Value.int .u8 0)) = w3 at hB3 R3 hg4 ⊢
   have hs1 : ∀ i, i < 8 → w3.cell? ⟨hb, i, none⟩ = some (.int .u32 (U (st1 i))) := fun i hi => by rw [hB3.cell i (by omega)]; unfold hv; rw [if_pos hi]; rfl
   have c0 := hs1 0 (by omega)
   have c1 := hs1 1 (by omega)
   have c2 := hs1 2 (by omega)
   have c3 := hs1 3 (by omega)
   have c4 := hs1 4 (by omega)
   have c5 := hs1 5 (by omega)
   have c6 := hs1 6 (by omega)
   have c7 := hs1 7 (by omega)
   clear hs1
   obtain ⟨b1, hb1⟩ : ∃ b1, b1 = b1Of blk r := ⟨_, rfl⟩
   rw [← hb1] at hB3
   have Hb1 := Lib.hid hb1
   clear hb1
   have hB5 := hB3.drew
   have R5 := R3.drew
   have hg6 : w.grownBy w3.drew (some hb) := grown_trans hg4 (grown_drewN w3 1 _)
   have hk5 : Hid (∀ i, i < 64 → w3.drew.cell? ⟨1, i, none⟩ = some (wv kk i)) := fun i hi => cell_grown hg6 (HK.out i hi) (by simpa using Ne.symm hh)
   have hc5 : Hid (∀ i, i < 64 → w3.drew.cell? ⟨hb, 8 + i, none⟩ = some (.int .u8 ((b1 i).toNat : Int))) := fun i hi => by
    rw [hB5.cell (8 + i) (by omega)]; unfold hv; rw [if_neg (by omega), if_pos (by omega), show 8 + i - 8 = i by omega]; rfl
   clear hB3 hg4 R3
   go_region_with ((go_at_call 114; refine (turned_lit st1 hb 8 b1 w3.drew hc5.out hB5.lt hk5.out).mono ?_; rintro e w6 ⟨rfl, hb6⟩; have hB6 := hB5.below hb6 hB5.lt; have R6 := R5.below hb6 R5.lt; have hg7 := grown_trans hg6 (grown_below hb6 (some hb)); clear hb6 c0 c1 c2 c3 c4 c5 c6 c7; have f0 := hB6.frozen 0; have f1 := hB6.frozen 1; have f2 := hB6.frozen 2; have f3 := hB6.frozen 3; have f4 := hB6.frozen 4; have f5 := hB6.frozen 5; have f6 := hB6.frozen 6; have f7 := hB6.frozen 7; have c0 := hB6.cell 0 (by omega); have c1 := hB6.cell 1 (by omega); have c2 := hB6.cell 2 (by omega); have c3 := hB6.cell 3 (by omega); have c4 := hB6.cell 4 (by omega); have c5 := hB6.cell 5 (by omega); have c6 := hB6.cell 6 (by omega); have c7 := hB6.cell 7 (by omega)))
   obtain ⟨w7, e7, hB7, hg8, R7⟩ := after8 hB6 hg7 R6 (by omega) (cmpr st1 b1)
   rw [← e7]
   clear e7 f0 f1 f2 f3 f4 f5 f6 f7 c0 c1 c2 c3 c4 c5 c6 c7 hB6 R6 hg7 hg6 hB5 R5 hk5 hc5
   go_upto_region 8 with (refine wpList_clear rfl rfl (.tmp 40) 63 rfl 5 (.int .u8 0) ty53 zero5 rfl rfl hb 8 64 64 (by omega) rfl (hB7.there _ _ (by omega)) ?_)
   have hB8 := blk_wiped hB7
   have R3 := R7.grown (setCells_grown hb (List.replicate 64 (Value.int .u8 0)) 8 w7) (by omega)
   have hg4 := grown_trans hg8 (setCells_grown hb (List.replicate 64 (Value.int .u8 0)) 8 w7)
   clear hB7 R7 hg8
   generalize w7.setCells hb 8 (List.replicate 64 (Value.int .u8 0)) = w8 at hB8 R3 hg4 ⊢
   have c72 : w8.cell? ⟨hb, 72, none⟩ = some (.int .u64 (n : Int)) := hB8.cell 72 (by omega)
   obtain ⟨s2, b2, hfin, hBx⟩ : ∃ s2 b2, Hid (∀ i, i < 8 → cmpr s2 (bLen b2 n 8) i = stB (pad d n) (nbl n) i) ∧ Blk w8 hb 156 73 (hv s2 b2 n) := ⟨cmpr st1 b1, fun _ => 0, by
    have h1 := Hst.out
    have h2 := Hr.out
    have h3 := Hb1.out
    subst h1 h3 h2
    exact fin_long hI (by omega), hB8⟩
   clear hB8
   go_wp2_with fail
   go_loopw [46] (fun i wr => ∃ k : Nat, k ≤ 8 ∧ i = .int .i64 k ∧ Blk wr hb 156 73 (hv s2 (bLen b2 n k) n) ∧ Blk wr w.heap.size 37 32 (bv fun _ => 0) ∧ w.grownBy wr (some hb)) (fun i _ => 8 - (intOf i).toNat)
   case atStart => exact ⟨0, by omega, rfl, by rw [bLen_zero]; exact hBx, R3, hg4⟩
   case round =>
    clear hBx R3 hg4 c72
    obtain ⟨k, hk8, rfl, hB4, R4, hg5⟩ := hrel
    by_cases hlt8 : k < 8
    ·have a0 : IntKind.i64.wrap (56 + (k : Int)) = 56 + (k : Int) := IntWalk.i64_in _ (by omega)
     have a1 : IntKind.i64.wrap (8 * (k : Int)) = 8 * (k : Int) := IntWalk.i64_in _ (by omega)
     have a2 : IntKind.i64.wrap (56 - 8 * (k : Int)) = 56 - 8 * (k : Int) := IntWalk.i64_in _ (by omega)
     have z0 : (0 : Int) ≤ 56 + (k : Int) := by omega
     have z1 : (0 : Int) ≤ 56 - 8 * (k : Int) := by omega
     have z1' : (8 : Int) * (k : Int) ≤ 56 := by omega
     have z2 : 56 + (k : Int) < 64 := by omega
     have z3 : 56 - 8 * (k : Int) ≤ 64 := by omega
     have t0 : (56 + (k : Int)).toNat = 56 + k := by omega
     have t1 : (56 - 8 * (k : Int)).toNat = 56 - 8 * k := by omega
     go_wp2
     go_still_tail 12, (by kernel_rfl)
     clear a0 a1 a2 t0 t1
     change wpList _ _ _ _ _ wr.drew
     have hB5 := hB4.drew
     have R5 := R4.drew
     have hg6 : w.grownBy wr.drew (some hb) := grown_trans hg5 (grown_drewN wr 1 _)
     clear hB4 R4 hg5
     generalize wr.drew = w5 at hB5 R5 hg6 ⊢
     have cB := hB5.cell (8 + (56 + k)) (by omega)
     have fB := hB5.frozen (8 + (56 + k))
     go_wp2
     go_roundw
     case rel =>
      refine ⟨k + 1, by omega, by go_num, ?_, R5.setOther _ _ (by simp; omega), grown_trans hg6 (grown_setCell _ _ _ _)⟩
      refine (hB5.set (8 + (56 + k)) _).congr fun i hi => ?_
      unfold hv
      by_cases c : i = 8 + (56 + k)
      ·subst c
       rw [if_pos rfl, if_neg (by omega), if_pos (by omega), show 8 + (56 + k) - 8 = 56 + k by omega]
       unfold bv
       rw [← bLen_step, if_pos rfl, ← lenByte_val n k hlt8]
      ·rw [if_neg c]
       by_cases c8 : i < 8
       ·rw [if_pos c8, if_pos c8]
       ·rw [if_neg c8, if_neg c8]
        by_cases c72 : i < 72
        ·rw [if_pos c72, if_pos c72]; unfold bv; rw [← bLen_step, if_neg (by omega)]
        ·rw [if_neg c72, if_neg c72]
     case measure => simp [intOf]; omega
    ·have hk8' : k = 8 := by omega
     subst hk8'
     go_wp2_with fail
     have hSI0 : SI w hb s2 (bLen b2 n 8) n wr.drew := SI.drew ⟨hB4, R4.there 0 32 (by omega), hg5, R4.lt⟩
     have Hk0 : Hid (∀ i, i < 64 → wr.drew.cell? ⟨1, i, none⟩ = some (wv kk i)) := fun i hi => cell_grown hSI0.2.2.1 (HK.out i hi) (by simpa using Ne.symm hh)
     have Hc0 : Hid (∀ i, i < 64 → wr.drew.cell? ⟨hb, 8 + i, none⟩ = some (.int .u8 ((bLen b2 n 8 i).toNat : Int))) := fun i hi => by
      rw [hSI0.1.cell (8 + i) (by omega)]; unfold hv; rw [if_neg (by omega), if_pos (by omega), show 8 + i - 8 = i by omega]; rfl
     obtain ⟨cs, hcs⟩ : ∃ cs, cs = (arr 32 (bv (sByte (cmpr s2 (bLen b2 n 8))))).toList := ⟨_, rfl⟩
     have hone := bv_oneCell hcs
     have hcl : cs.length = 32 := by rw [hcs, Array.length_toList, arr_size]
     have Hcs := Lib.hid hcs
     have Hcl := Lib.hid hcl
     have hi26 : (Tryz.prog.info? 37).map (·.size) = some cs.length := by rw [hcl]; exact sz26
     clear hcs hcl hB4 R4 hg5
     go_region_held3 (fun w' => w'.cell? ⟨hb, 0, none⟩ = some (.int .u32 (U (s2 0))) ∧ w'.cell? ⟨hb, 1, none⟩ = some (.int .u32 (U (s2 1))) ∧ w'.cell? ⟨hb, 2, none⟩ = some (.int .u32 (U (s2 2))) ∧ w'.cell? ⟨hb, 3, none⟩ = some (.int .u32 (U (s2 3))) ∧
      w'.cell? ⟨hb, 4, none⟩ = some (.int .u32 (U (s2 4))) ∧ w'.cell? ⟨hb, 5, none⟩ = some (.int .u32 (U (s2 5))) ∧ w'.cell? ⟨hb, 6, none⟩ = some (.int .u32 (U (s2 6))) ∧ w'.cell? ⟨hb, 7, none⟩ = some (.int .u32 (U (s2 7))) ∧ w'.there w.heap.size 0 cs.length ∧ SI w hb s2 (bLen b2 n 8) n w')
      (first | exact hSI0.cells Hcl.out | exact hSI1.cells Hcl.out | exact hSI2.cells Hcl.out | exact (SI.store hSI2 hlt cs).cells Hcl.out)
      (first | (go_at_call 114; refine (turned_lit s2 hb 8 (bLen b2 n 8) wr.drew Hc0.out hSI0.1.lt Hk0.out).mono ?_; rintro e w6 ⟨rfl, hb6⟩; have hSI1 := hSI0.below hb6) | (go_at_call 115; refine (bytes_lit (cmpr s2 (bLen b2 n 8)) cs Hcs.out _).mono ?_; rintro e w7 ⟨rfl, hb7⟩; have hSI2 := hSI1.below hb7))
     have hS3 := SI.store hSI2 hlt cs
     have hr3 : (w7.setCells w.heap.size 0 cs).rangeAt w.heap.size 0 cs := World.rangeAt_setCells_same _ _ _ _ (by rw [Hcl.out]; exact hSI2.2.1)
     generalize w7.setCells w.heap.size 0 cs = w8 at hS3 hr3 ⊢
     go_wp2
     refine bodyPost_ret (v := .agg cs.toArray) (results_mid rfl _ _ w.heap.size cs _ rfl hr3 ty26 rfl hi26) rfl ⟨?_, hS3.2.2.1⟩
     have hc := Hcs.out
     rw [hc, Array.toArray_toList]
     exact congrArg (fun a => Ending.returned (.agg a)) (arr_congr fun i hi => by unfold bv dig; rw [sByte_congr hfin.out i hi])
  ·have g56 : (56 : Int) ≤ (r : Int) := by omega
   have hr63 : r = 63 := by omega
   have hB3 := blk_last hB2 hr63
   have R3 := R2
   have hg4 := hg3
   clear hB2 R2 hg3
   obtain ⟨w3, rfl⟩ : ∃ w3, w3 = w2 := ⟨_, rfl⟩
   have s3 : ((r : Int) + 1) = 64 := by omega
   go_upto_region 6 with (refine wpList_clear0 rfl rfl (.tmp 23) 63 rfl 5 ty53 (some ⟨hb, 8, none⟩) 0 rfl ?_)
   clear s3 hr63
   have hs1 : ∀ i, i < 8 → w3.cell? ⟨hb, i, none⟩ = some (.int .u32 (U (st1 i))) := fun i hi => by rw [hB3.cell i (by omega)]; unfold hv; rw [if_pos hi]; rfl
   have c0 := hs1 0 (by omega)
   have c1 := hs1 1 (by omega)
   have c2 := hs1 2 (by omega)
   have c3 := hs1 3 (by omega)
   have c4 := hs1 4 (by omega)
   have c5 := hs1 5 (by omega)
   have c6 := hs1 6 (by omega)
   have c7 := hs1 7 (by omega)
   clear hs1
   obtain ⟨b1, hb1⟩ : ∃ b1, b1 = b1Of blk r := ⟨_, rfl⟩
   rw [← hb1] at hB3
   have Hb1 := Lib.hid hb1
   clear hb1
   have hB5 := hB3.drew
   have R5 := R3.drew
   have hg6 : w.grownBy w3.drew (some hb) := grown_trans hg4 (grown_drewN w3 1 _)
   have hk5 : Hid (∀ i, i < 64 → w3.drew.cell? ⟨1, i, none⟩ = some (wv kk i)) := fun i hi => cell_grown hg6 (HK.out i hi) (by simpa using Ne.symm hh)
   have hc5 : Hid (∀ i, i < 64 → w3.drew.cell? ⟨hb, 8 + i, none⟩ = some (.int .u8 ((b1 i).toNat : Int))) := fun i hi => by
    rw [hB5.cell (8 + i) (by omega)]; unfold hv; rw [if_neg (by omega), if_pos (by omega), show 8 + i - 8 = i by omega]; rfl
   clear hB3 hg4 R3
   go_region_with ((go_at_call 114; refine (turned_lit st1 hb 8 b1 w3.drew hc5.out hB5.lt hk5.out).mono ?_; rintro e w6 ⟨rfl, hb6⟩; have hB6 := hB5.below hb6 hB5.lt; have R6 := R5.below hb6 R5.lt; have hg7 := grown_trans hg6 (grown_below hb6 (some hb)); clear hb6 c0 c1 c2 c3 c4 c5 c6 c7; have f0 := hB6.frozen 0; have f1 := hB6.frozen 1; have f2 := hB6.frozen 2; have f3 := hB6.frozen 3; have f4 := hB6.frozen 4; have f5 := hB6.frozen 5; have f6 := hB6.frozen 6; have f7 := hB6.frozen 7; have c0 := hB6.cell 0 (by omega); have c1 := hB6.cell 1 (by omega); have c2 := hB6.cell 2 (by omega); have c3 := hB6.cell 3 (by omega); have c4 := hB6.cell 4 (by omega); have c5 := hB6.cell 5 (by omega); have c6 := hB6.cell 6 (by omega); have c7 := hB6.cell 7 (by omega)))
   obtain ⟨w7, e7, hB7, hg8, R7⟩ := after8 hB6 hg7 R6 (by omega) (cmpr st1 b1)
   rw [← e7]
   clear e7 f0 f1 f2 f3 f4 f5 f6 f7 c0 c1 c2 c3 c4 c5 c6 c7 hB6 R6 hg7 hg6 hB5 R5 hk5 hc5
   go_upto_region 8 with (refine wpList_clear rfl rfl (.tmp 40) 63 rfl 5 (.int .u8 0) ty53 zero5 rfl rfl hb 8 64 64 (by omega) rfl (hB7.there _ _ (by omega)) ?_)
   have hB8 := blk_wiped hB7
   have R3 := R7.grown (setCells_grown hb (List.replicate 64 (Value.int .u8 0)) 8 w7) (by omega)
   have hg4 := grown_trans hg8 (setCells_grown hb (List.replicate 64 (Value.int .u8 0)) 8 w7)
   clear hB7 R7 hg8
   generalize w7.setCells hb 8 (List.replicate 64 (Value.int .u8 0)) = w8 at hB8 R3 hg4 ⊢
   have c72 : w8.cell? ⟨hb, 72, none⟩ = some (.int .u64 (n : Int)) := hB8.cell 72 (by omega)
   obtain ⟨s2, b2, hfin, hBx⟩ : ∃ s2 b2, Hid (∀ i, i < 8 → cmpr s2 (bLen b2 n 8) i = stB (pad d n) (nbl n) i) ∧ Blk w8 hb 156 73 (hv s2 b2 n) := ⟨cmpr st1 b1, fun _ => 0, by
    have h1 := Hst.out
    have h2 := Hr.out
    have h3 := Hb1.out
    subst h1 h3 h2
    exact fin_long hI (by omega), hB8⟩
   clear hB8
   go_wp2_with fail
   go_loopw [46] (fun i wr => ∃ k : Nat, k ≤ 8 ∧ i = .int .i64 k ∧ Blk wr hb 156 73 (hv s2 (bLen b2 n k) n) ∧ Blk wr w.heap.size 37 32 (bv fun _ => 0) ∧ w.grownBy wr (some hb)) (fun i _ => 8 - (intOf i).toNat)
   case atStart => exact ⟨0, by omega, rfl, by rw [bLen_zero]; exact hBx, R3, hg4⟩
   case round =>
    clear hBx R3 hg4 c72
    obtain ⟨k, hk8, rfl, hB4, R4, hg5⟩ := hrel
    by_cases hlt8 : k < 8
    ·have a0 : IntKind.i64.wrap (56 + (k : Int)) = 56 + (k : Int) := IntWalk.i64_in _ (by omega)
     have a1 : IntKind.i64.wrap (8 * (k : Int)) = 8 * (k : Int) := IntWalk.i64_in _ (by omega)
     have a2 : IntKind.i64.wrap (56 - 8 * (k : Int)) = 56 - 8 * (k : Int) := IntWalk.i64_in _ (by omega)
     have z0 : (0 : Int) ≤ 56 + (k : Int) := by omega
     have z1 : (0 : Int) ≤ 56 - 8 * (k : Int) := by omega
     have z1' : (8 : Int) * (k : Int) ≤ 56 := by omega
     have z2 : 56 + (k : Int) < 64 := by omega
     have z3 : 56 - 8 * (k : Int) ≤ 64 := by omega
     have t0 : (56 + (k : Int)).toNat = 56 + k := by omega
     have t1 : (56 - 8 * (k : Int)).toNat = 56 - 8 * k := by omega
     go_wp2
     go_still_tail 12, (by kernel_rfl)
     clear a0 a1 a2 t0 t1
     change wpList _ _ _ _ _ wr.drew
     have hB5 := hB4.drew
     have R5 := R4.drew
     have hg6 : w.grownBy wr.drew (some hb) := grown_trans hg5 (grown_drewN wr 1 _)
     clear hB4 R4 hg5
     generalize wr.drew = w5 at hB5 R5 hg6 ⊢
     have cB := hB5.cell (8 + (56 + k)) (by omega)
     have fB := hB5.frozen (8 + (56 + k))
     go_wp2
     go_roundw
     case rel =>
      refine ⟨k + 1, by omega, by go_num, ?_, R5.setOther _ _ (by simp; omega), grown_trans hg6 (grown_setCell _ _ _ _)⟩
      refine (hB5.set (8 + (56 + k)) _).congr fun i hi => ?_
      unfold hv
      by_cases c : i = 8 + (56 + k)
      ·subst c
       rw [if_pos rfl, if_neg (by omega), if_pos (by omega), show 8 + (56 + k) - 8 = 56 + k by omega]
       unfold bv
       rw [← bLen_step, if_pos rfl, ← lenByte_val n k hlt8]
      ·rw [if_neg c]
       by_cases c8 : i < 8
       ·rw [if_pos c8, if_pos c8]
       ·rw [if_neg c8, if_neg c8]
        by_cases c72 : i < 72
        ·rw [if_pos c72, if_pos c72]; unfold bv; rw [← bLen_step, if_neg (by omega)]
        ·rw [if_neg c72, if_neg c72]
     case measure => simp [intOf]; omega
    ·have hk8' : k = 8 := by omega
     subst hk8'
     go_wp2_with fail
     have hSI0 : SI w hb s2 (bLen b2 n 8) n wr.drew := SI.drew ⟨hB4, R4.there 0 32 (by omega), hg5, R4.lt⟩
     have Hk0 : Hid (∀ i, i < 64 → wr.drew.cell? ⟨1, i, none⟩ = some (wv kk i)) := fun i hi => cell_grown hSI0.2.2.1 (HK.out i hi) (by simpa using Ne.symm hh)
     have Hc0 : Hid (∀ i, i < 64 → wr.drew.cell? ⟨hb, 8 + i, none⟩ = some (.int .u8 ((bLen b2 n 8 i).toNat : Int))) := fun i hi => by
      rw [hSI0.1.cell (8 + i) (by omega)]; unfold hv; rw [if_neg (by omega), if_pos (by omega), show 8 + i - 8 = i by omega]; rfl
     obtain ⟨cs, hcs⟩ : ∃ cs, cs = (arr 32 (bv (sByte (cmpr s2 (bLen b2 n 8))))).toList := ⟨_, rfl⟩
     have hone := bv_oneCell hcs
     have hcl : cs.length = 32 := by rw [hcs, Array.length_toList, arr_size]
     have Hcs := Lib.hid hcs
     have Hcl := Lib.hid hcl
     have hi26 : (Tryz.prog.info? 37).map (·.size) = some cs.length := by rw [hcl]; exact sz26
     clear hcs hcl hB4 R4 hg5
     go_region_held3 (fun w' => w'.cell? ⟨hb, 0, none⟩ = some (.int .u32 (U (s2 0))) ∧ w'.cell? ⟨hb, 1, none⟩ = some (.int .u32 (U (s2 1))) ∧ w'.cell? ⟨hb, 2, none⟩ = some (.int .u32 (U (s2 2))) ∧ w'.cell? ⟨hb, 3, none⟩ = some (.int .u32 (U (s2 3))) ∧
      w'.cell? ⟨hb, 4, none⟩ = some (.int .u32 (U (s2 4))) ∧ w'.cell? ⟨hb, 5, none⟩ = some (.int .u32 (U (s2 5))) ∧ w'.cell? ⟨hb, 6, none⟩ = some (.int .u32 (U (s2 6))) ∧ w'.cell? ⟨hb, 7, none⟩ = some (.int .u32 (U (s2 7))) ∧ w'.there w.heap.size 0 cs.length ∧ SI w hb s2 (bLen b2 n 8) n w')
      (first | exact hSI0.cells Hcl.out | exact hSI1.cells Hcl.out | exact hSI2.cells Hcl.out | exact (SI.store hSI2 hlt cs).cells Hcl.out)
      (first | (go_at_call 114; refine (turned_lit s2 hb 8 (bLen b2 n 8) wr.drew Hc0.out hSI0.1.lt Hk0.out).mono ?_; rintro e w6 ⟨rfl, hb6⟩; have hSI1 := hSI0.below hb6) | (go_at_call 115; refine (bytes_lit (cmpr s2 (bLen b2 n 8)) cs Hcs.out _).mono ?_; rintro e w7 ⟨rfl, hb7⟩; have hSI2 := hSI1.below hb7))
     have hS3 := SI.store hSI2 hlt cs
     have hr3 : (w7.setCells w.heap.size 0 cs).rangeAt w.heap.size 0 cs := World.rangeAt_setCells_same _ _ _ _ (by rw [Hcl.out]; exact hSI2.2.1)
     generalize w7.setCells w.heap.size 0 cs = w8 at hS3 hr3 ⊢
     go_wp2
     refine bodyPost_ret (v := .agg cs.toArray) (results_mid rfl _ _ w.heap.size cs _ rfl hr3 ty26 rfl hi26) rfl ⟨?_, hS3.2.2.1⟩
     have hc := Hcs.out
     rw [hc, Array.toArray_toList]
     exact congrArg (fun a => Ending.returned (.agg a)) (arr_congr fun i hi => by unfold bv dig; rw [sByte_congr hfin.out i hi])
end Go.Proofs.YtnmjcpoobabjgaaGreatDoor.Dg
namespace Go.Proofs.YtnmjcpoobabjgaaGreatDoor.Dg
open Go.RowKit
/- how many bytes the first k parts have -/
def offs (ss : Nat → ByteArray) : Nat → Nat
  | 0 => 0
  | k + 1 => offs ss k + (ss k).size
theorem offs_mono (ss : Nat → ByteArray) {a b : Nat} (h : a ≤ b) : offs ss a ≤ offs ss b := by
  induction h with
  | refl => exact Nat.le_refl _
  | step _ ih => exact Nat.le_trans ih (Nat.le_add_right _ _)
/- the parts' bytes stand in d from n0 on -/
def Parts (ss : Nat → ByteArray) (len n0 : Nat) (d : Nat → UInt8) : Prop := ∀ i, i < len → ∀ j, j < (ss i).size → sAt (ss i) j = d (n0 + offs ss i + j)
set_option maxHeartbeats 1000000 in
set_option maxRecDepth 100000 in
theorem write_none (ad : Option Addr) (cap : Nat) (hb : Nat) (w : World) :
    Calls Tryz.prog 90 #[.pointer (some ⟨hb, 0, none⟩), .slice ad 0 cap] w fun e w' => e = .returned (.tuple #[]) ∧ w = w' := by
  go_enter Tryz.func90, Tryz.ntmps90
  go_wp2_with fail
  refine wp_loop_rounds 1 ?_
  rw [rounds_succ]
  go_wp2_with fail
  go_end0
  exact ⟨rfl, rfl⟩
set_option maxHeartbeats 1000000 in
set_option maxRecDepth 100000 in
theorem write_some (ss : Nat → ByteArray) (b o len cap : Nat) (d : Nat → UInt8) (n0 hb : Nat) (w : World) (hlen : 0 < len) (hl : len ≤ 1048576) (hn : n0 + offs ss len ≤ 1073741824) (hT : Taken hb d n0 w w)
    (hd : Parts ss len n0 d) (hh : hb ≠ 1) (hbb : b ≠ hb) (hk : ∀ i, i < 64 → w.cell? ⟨1, i, none⟩ = some (wv kk i)) (hc : ∀ i, i < len → w.cell? ⟨b, o + i, none⟩ = some (.string (ss i))) :
    Calls Tryz.prog 90 #[.pointer (some ⟨hb, 0, none⟩), .slice (some ⟨b, o, none⟩) len cap] w fun e w' => e = .returned (.tuple #[]) ∧ Taken hb d (n0 + offs ss len) w w' := by
  have HK := Lib.hid hk
  have HC := Lib.hid hc
  have HD := Lib.hid hd
  clear hk hc hd
  go_enter Tryz.func90, Tryz.ntmps90
  go_wp2_with fail
  go_loopw [10] (fun i wr => ∃ k : Nat, k ≤ len ∧ i = .int .i64 k ∧ Taken hb d (n0 + offs ss k) w wr) (fun i _ => len - (intOf i).toNat)
  case atStart => exact ⟨0, by omega, rfl, hT⟩
  case round =>
    obtain ⟨k, hk, rfl, st, blk, hB, hI, hg⟩ := hrel
    by_cases hlt : k < len
    · have ck : wr.cell? ⟨b, o + k, none⟩ = some (.string (ss k)) := cell_grown hg (HC.out k hlt) hbb
      have hz : n0 + offs ss k + (ss k).size ≤ 1073741824 := by
        have := offs_mono ss (show k + 1 ≤ len by omega)
        have e : offs ss (k + 1) = offs ss k + (ss k).size := rfl
        omega
      have hkr : Hid (∀ i, i < 64 → wr.cell? ⟨1, i, none⟩ = some (wv kk i)) := fun i hi => cell_grown hg (HK.out i hi) (by simpa using Ne.symm hh)
      go_wp2_with fail
      refine (take_any (ss k) d st blk (n0 + offs ss k) hb wr hz hB hI (HD.out k hlt) hh hkr.out).mono ?_
      rintro e w1 ⟨rfl, st1, blk1, hB1, hI1, hg1⟩
      clear ck
      go_wp2_with fail
      go_roundw
      case rel => exact ⟨k + 1, by omega, by go_num, st1, blk1, by rw [show n0 + offs ss (k + 1) = n0 + offs ss k + (ss k).size from by rw [Nat.add_assoc]; rfl]; exact hB1, by rw [show n0 + offs ss (k + 1) = n0 + offs ss k + (ss k).size from by rw [Nat.add_assoc]; rfl]; exact hI1, grown_trans hg hg1⟩
      case measure => simp [intOf]; omega
    · have e : Hid (k = len) := by show k = len; omega
      go_wp2_with fail
      go_end0
      refine ⟨rfl, ?_⟩
      rw [← e.out]
      exact ⟨st, blk, hB, hI, hg⟩
end Go.Proofs.YtnmjcpoobabjgaaGreatDoor.Dg
namespace Go.Proofs.YtnmjcpoobabjgaaGreatDoor.Dg
open Go.RowKit
/- the parts as a text: byte i of all parts, one behind the other -/
def joinF (ss : Nat → ByteArray) : Nat → Nat → UInt8
  | 0, _ => 0
  | k + 1, i => if i < offs ss k then joinF ss k i else sAt (ss k) (i - offs ss k)
theorem joinF_parts (ss : Nat → ByteArray) (len i j : Nat) (hi : i < len) (hj : j < (ss i).size) : sAt (ss i) j = joinF ss len (offs ss i + j) := by
  induction len with
  | zero => omega
  | succ k ih =>
    unfold joinF
    by_cases c : i < k
    · have h1 := offs_mono ss (show i + 1 ≤ k by omega)
      have h2 : offs ss (i + 1) = offs ss i + (ss i).size := rfl
      rw [if_pos (by omega)]
      exact ih c
    · have e : i = k := by omega
      subst e
      rw [if_neg (by omega), show offs ss i + j - offs ss i = j by omega]
theorem joinF_Parts (ss : Nat → ByteArray) (len : Nat) : Parts ss len 0 (joinF ss len) := fun i hi j hj => by
  rw [Nat.zero_add]; exact joinF_parts ss len i j hi hj
/- a hash that has taken nothing -/
theorem zero_hash (w : World) (hb : Nat) (d : Nat → UInt8) (hB : Blk w hb 156 73 (hv (fun _ => 0) (fun _ => 0) 0)) : Taken hb d 0 w w :=
  ⟨_, _, hB, ⟨fun h => absurd h (by omega), fun i hi => absurd hi (by omega)⟩, grown_refl _ _⟩
/- what an argument slice of strings says -/
def Strs (w : World) (v : Value) (ss : Nat → ByteArray) (len : Nat) : Prop :=
  (∃ ad cap, v = .slice ad 0 cap ∧ len = 0) ∨ (∃ b o cap, v = .slice (some ⟨b, o, none⟩) len cap ∧ 0 < len ∧ b < w.heap.size ∧ ∀ i, i < len → w.cell? ⟨b, o + i, none⟩ = some (.string (ss i)))
theorem write_any (ss : Nat → ByteArray) (v : Value) (len : Nat) (d : Nat → UInt8) (n0 hb : Nat) (w w0 : World) (hl : len ≤ 1048576) (hn : n0 + offs ss len ≤ 1073741824) (hT : Taken hb d n0 w w)
    (hd : Parts ss len n0 d) (hh : hb ≠ 1) (hk : ∀ i, i < 64 → w.cell? ⟨1, i, none⟩ = some (wv kk i)) (hS : Strs w0 v ss len) (hb0 : Below w0.heap.size w0 w) (hhb : w0.heap.size ≤ hb) :
    Calls Tryz.prog 90 #[.pointer (some ⟨hb, 0, none⟩), v] w fun e w' => e = .returned (.tuple #[]) ∧ Taken hb d (n0 + offs ss len) w w' := by
  rcases hS with ⟨ad, cap, rfl, rfl⟩ | ⟨b, o, cap, rfl, h0, hb1, hc⟩
  · exact (write_none ad cap hb w).mono fun e w' h => ⟨h.1, by rw [← h.2]; exact hT⟩
  · exact write_some ss b o len cap d n0 hb w h0 hl hn hT hd hh (by omega) hk (fun i hi => by rw [hb0.cell hb1]; exact hc i hi)
def z73 : Array Value := arr 73 (hv (fun _ => 0) (fun _ => 0) 0)
theorem zero35 : ∀ w, (zeroValue 156).run Tryz.prog w = .ok (.agg z73) w := fun _ => by kernel_rfl
set_option maxHeartbeats 1000000 in
set_option maxRecDepth 100000 in
theorem sum_any (ss : Nat → ByteArray) (v : Value) (len : Nat) (w : World) (hl : len ≤ 1048576) (hn : offs ss len ≤ 1073741824) (hS : Strs w v ss len) (hk : ∀ i, i < 64 → w.cell? ⟨1, i, none⟩ = some (wv kk i)) :
    Calls Tryz.prog 73 #[v] w fun e w' => e = .returned (.agg (arr 32 (bv (dig (joinF ss len) (offs ss len))))) ∧ Below w.heap.size w w' := by
  have h0 : 1 < w.heap.size := block_lt_of_cell (hk 0 (by omega))
  have HK := Lib.hid hk
  clear hk
  have z := zero35
  go_enter Tryz.func73, Tryz.ntmps73
  go_wp2_with fail
  have L0 : ∀ A B, Below w.heap.size w ((w.alloc A).alloc B) := fun A B => ((Below.refl _ _).alloc (Nat.le_refl _) _).alloc (by simp) _
  have R0 := heap_alloc2_old w (.cells #[.int .u8 0, .int .u8 0, .int .u8 0, .int .u8 0, .int .u8 0, .int .u8 0, .int .u8 0, .int .u8 0, .int .u8 0, .int .u8 0, .int .u8 0, .int .u8 0, .int .u8 0, .int .u8 0, .int .u8 0, .int .u8 0, .int .u8 0, .int .u8 0, .int .u8 0, .int .u8 0, .int .u8 0, .int .u8 0, .int .u8 0, .int .u8 0, .int .u8 0, .int .u8 0, .int .u8 0, .int .u8 0, .int .u8 0, .int .u8 0, .int .u8 0, .int .u8 0] 37) (.cells z73 156)
  have B0 : Blk ((w.alloc (.cells #[.int .u8 0, .int .u8 0, .int .u8 0, .int .u8 0, .int .u8 0, .int .u8 0, .int .u8 0, .int .u8 0, .int .u8 0, .int .u8 0, .int .u8 0, .int .u8 0, .int .u8 0, .int .u8 0, .int .u8 0, .int .u8 0, .int .u8 0, .int .u8 0, .int .u8 0, .int .u8 0, .int .u8 0, .int .u8 0, .int .u8 0, .int .u8 0, .int .u8 0, .int .u8 0, .int .u8 0, .int .u8 0, .int .u8 0, .int .u8 0, .int .u8 0, .int .u8 0] 37)).alloc (.cells z73 156)) (w.heap.size + 1) 156 73 (hv (fun _ => 0) (fun _ => 0) 0) := Blk.newAt _ (heap_alloc2_new w _ _) rfl
  have hk0 := fun A B => (fun i hi => by rw [(L0 A B).cell h0]; exact HK.out i hi : ∀ i, i < 64 → ((w.alloc A).alloc B).cell? ⟨1, i, none⟩ = some (wv kk i))
  refine (write_any ss v len (joinF ss len) 0 (w.heap.size + 1) _ w hl (by omega) (zero_hash _ _ _ B0) (joinF_Parts ss len) (by omega) (hk0 _ _) hS (L0 _ _) (by omega)).mono ?_
  rintro e w1 ⟨rfl, st, blk, hB1, hI1, hg1⟩
  rw [Nat.zero_add] at hB1 hI1
  have R1 := Blk.grown (Blk.newAt (E := 37) (n := 32) (bv fun _ => 0) R0 (by rfl)) hg1 (by omega)
  have L1 := below_grown (L0 _ _) hg1 (by simp <;> omega) (by omega)
  have hk1 : ∀ i, i < 64 → w1.cell? ⟨1, i, none⟩ = some (wv kk i) := fun i hi => by rw [L1.cell h0]; exact HK.out i hi
  clear hg1 B0 R0 L0 hk0
  go_wp2_with fail
  refine (end_any (joinF ss len) st blk (offs ss len) (w.heap.size + 1) w1 hn hB1 hI1 (by omega) hk1).mono ?_
  rintro e w2 ⟨rfl, hg2⟩
  have R2 := R1.grown hg2 (by omega)
  have L2 := below_grown L1 hg2 (by have := L1.size; exact this) (by omega)
  clear hB1 hI1 R1 L1 hk1 hg2
  go_wp2_with (refine wpList_store_blk rfl 37 (.tmp 2) (.tmp 6) rfl w.heap.size 32 (bv (dig (joinF ss len) (offs ss len))) (bv fun _ => 0) rfl rfl 37 R2 sz26 (fun _ _ => rfl) ?_)
  have R3 := R2.setRow (bv (dig (joinF ss len) (offs ss len)))
  have L3 := below_setRow L2 (Nat.le_refl _) (arr 32 (bv (dig (joinF ss len) (offs ss len))))
  generalize w2.setRow w.heap.size (arr 32 (bv (dig (joinF ss len) (offs ss len)))) = w3 at R3 L3 ⊢
  exact bodyPost_ret (v := .agg (arr 32 (bv (dig (joinF ss len) (offs ss len))))) (results_blk rfl _ _ w.heap.size 37 32 _ R3 _ rfl ty26 rfl sz26) rfl ⟨rfl, L3⟩
end Go.Proofs.YtnmjcpoobabjgaaGreatDoor.Dg
/- Bytes of texts. -/
namespace Go.Proofs.YtnmjcpoobabjgaaGreatDoor.Dg
open Go.RowKit
theorem ty5 : Tryz.prog.underlying 5 = some (.int .u8) := by kernel_rfl
theorem ty9 : Tryz.prog.underlying 9 = some .string := by kernel_rfl
theorem idx_str (s : ByteArray) (i : Nat) (h : i < s.size) (w : World) : (Instr.index 9 (.string s) (.int .i64 (i : Int))).run Tryz.prog w = .ok (.int .u8 ((sAt s i).toNat : Int)) w := by
  have hs : s.data.size = s.size := rfl
  have e : sAt s i = s[i] := by
    unfold sAt
    rw [List.getD_eq_getElem?_getD, Array.getElem?_toList, Array.getElem?_eq_getElem (by omega)]; rfl
  rw [e]
  have hai : (asIntOf (.int .i64 (i : Int))).run Tryz.prog w = .ok (.i64, (i : Int)) w := rfl
  simp [Instr.index, run_underlying ty9, hai, h]
theorem sAt_ext (s : ByteArray) (a b j : Nat) (h1 : a ≤ b) (h2 : b ≤ s.size) (hj : j < b - a) : sAt (s.extract a b) j = sAt s (a + j) := by
  have hs : s.data.size = s.size := rfl
  unfold sAt
  rw [ByteArray.data_extract, List.getD_eq_getElem?_getD, List.getD_eq_getElem?_getD, Array.getElem?_toList, Array.getElem?_toList, Array.getElem?_extract_of_lt (by omega), Array.getElem?_eq_getElem (show a + j < s.data.size by omega)]
theorem size_ext (s : ByteArray) (a b : Nat) (h1 : a ≤ b) (h2 : b ≤ s.size) : (s.extract a b).size = b - a := by
  rw [ByteArray.size_extract]; omega
end Go.Proofs.YtnmjcpoobabjgaaGreatDoor.Dg
/- The digest of one text, by the program and by the reference. -/
namespace Go.Proofs.YtnmjcpoobabjgaaGreatDoor.Dg
open Go.RowKit
def oneS (s : ByteArray) (_ : Nat) : ByteArray := s
theorem one_offs (s : ByteArray) : offs (oneS s) 1 = s.size := by simp [offs, oneS]
theorem one_join (s : ByteArray) (i : Nat) : joinF (oneS s) 1 i = sAt s i := by
  unfold joinF
  rw [if_neg (by simp [offs])]
  simp [offs, oneS]
theorem sum_one (s : ByteArray) (b : Nat) (w : World) (hs : s.size ≤ 1073741824) (hb : b < w.heap.size) (hc : w.cell? ⟨b, 0, none⟩ = some (.string s)) (hk : ∀ i, i < 64 → w.cell? ⟨1, i, none⟩ = some (wv kk i)) :
    Calls Tryz.prog 73 #[.slice (some ⟨b, 0, none⟩) 1 1] w fun e w' => e = .returned (.agg (arr 32 (bv (dig (sAt s) s.size)))) ∧ Below w.heap.size w w' := by
  have h := sum_any (oneS s) (.slice (some ⟨b, 0, none⟩) 1 1) 1 w (by decide) (by rw [one_offs]; exact hs) (.inr ⟨b, 0, 1, rfl, by decide, hb, fun i hi => by rw [show i = 0 by omega]; exact hc⟩) hk
  rw [one_offs] at h
  have e : arr 32 (bv (dig (joinF (oneS s) 1) s.size)) = arr 32 (bv (dig (sAt s) s.size)) := arr_congr fun i hi => by
    unfold bv
    rw [dig_congr (fun j _ => one_join s j) i hi]
  rw [e] at h
  exact h
end Go.Proofs.YtnmjcpoobabjgaaGreatDoor.Dg
/- The laid words; an object's digest. -/
namespace Go.Proofs.YtnmjcpoobabjgaaGreatDoor
open Go.RowKit Classical
/- the laid words stand -/
def Tie (w : World) : Prop := ∀ i, i < 64 → w.cell? ⟨1, i, none⟩ = some (Dg.wv Dg.kk i)
theorem Tie.below {w w' : World} (h : Tie w) (hb : Below w.heap.size w w') : Tie w' := fun i hi => by
  rw [hb.cell (block_lt_of_cell (h i hi))]; exact h i hi
def idD (k : Int) (l : List UInt8) : Nat → UInt8 := Dg.dig (Dg.sAt (bs (fb k l))) (bs (fb k l)).size
theorem fb_size (k : Int) (l : List UInt8) (hl : l.length ≤ 4096) : (bs (fb k l)).size ≤ 1073741824 := by
  rw [bs_size]
  unfold fb
  rw [List.length_cons, tx_len]
  have := dg_le6 (clamp_le (l.length : Int))
  omega
theorem bd_zid (w : World) : (Instr.build 37 #[]).run Tryz.prog w = .ok (.agg (arr 32 (bv fun _ => 0))) w := by kernel_rfl
end Go.Proofs.YtnmjcpoobabjgaaGreatDoor
/- An object's id, by the program. -/
namespace Go.Proofs.YtnmjcpoobabjgaaGreatDoor
open Go.RowKit Classical
theorem bs_run (F : ByteArray) (w : World) : (Instr.buildSlice 71 1 #[(0, .string F)]).run Tryz.prog w = .ok (.slice (some ⟨w.heap.size, 0, none⟩) 1 1) (w.alloc (.cells #[.string F] 9)) := by kernel_rfl
theorem ex_buildS {o : Oper} {a : Act} {w : World} (x : Operand) (ho : o.op = .buildSlice 71 1 #[(0, x)]) (F : ByteArray) (hx : a.eval x = .string F) :
    (execOp a.eval o).run Tryz.prog w = .ok (.value (.slice (some ⟨w.heap.size, 0, none⟩) 1 1)) (w.alloc (.cells #[.string F] 9)) := by
  have hr := bs_run F w
  unfold execOp
  simp only [ho, List.map_toArray, List.map_cons, List.map_nil, hx, Sem.run_bind, hr, Result.andThen_ok]
  rfl
set_option maxHeartbeats 2000000 in
set_option maxRecDepth 100000 in
theorem oid_any (k : Int) (l : List UInt8) (w : World) (hT : Tie w) :
    Calls Tryz.prog 47 #[.agg #[.int .i64 k, .string (bs l)]] w fun e w' => (objOk k l → e = .returned (.tuple #[.agg (arr 32 (bv (idD k l))), .bool true])) ∧ (¬ objOk k l → e = .returned (.tuple #[.agg (arr 32 (bv fun _ => 0)), .bool false])) ∧ Below w.heap.size w w' := by
  have z1 : (w.alloc (.cells #[.int .i64 k, .string (bs l)] 43)).heap.size = w.heap.size + 1 := by simp
  have BZ : Hid (Blk ((w.alloc (.cells #[.int .i64 k, .string (bs l)] 43)).alloc (.cells (arr 32 (bv fun _ => 0)) 37)) (w.heap.size + 1) 37 32 (bv fun _ => 0)) := by
    show Blk _ _ _ _ _
    rw [← z1]; exact Blk.newAt _ (heap_alloc_new _ _) rfl
  have L0 : Hid (Below w.heap.size w ((w.alloc (.cells #[.int .i64 k, .string (bs l)] 43)).alloc (.cells (arr 32 (bv fun _ => 0)) 37))) := ((Below.refl _ _).alloc (Nat.le_refl _) _).alloc (by simp) _
  have c0 : ((w.alloc (.cells #[.int .i64 k, .string (bs l)] 43)).alloc (.cells (arr 32 (bv fun _ => 0)) 37)).cell? ⟨w.heap.size, 0, none⟩ = some (.int .i64 k) := cell_of_row _ _ _ _ _ _ (heap_alloc2_old _ _ _)
  have c1 : ((w.alloc (.cells #[.int .i64 k, .string (bs l)] 43)).alloc (.cells (arr 32 (bv fun _ => 0)) 37)).cell? ⟨w.heap.size, 1, none⟩ = some (.string (bs l)) := cell_of_row _ _ _ _ _ _ (heap_alloc2_old _ _ _)
  have TI := Lib.hid hT
  have FS : Hid (objOk k l → (bs (fb k l)).size ≤ 1073741824) := fun h => fb_size k l h.1
  have HF := Lib.hid (fun W => frame_any k l W)
  obtain ⟨D, hD⟩ : ∃ D, D = idD k l := ⟨_, rfl⟩
  rw [← hD]
  have HD := Lib.hid hD
  clear z1 hT hD
  go_enter Tryz.func47, Tryz.ntmps47
  go_upto_region 1 with fail
  change Code.wp _ _ _ _ ((w.alloc (.cells #[.int .i64 k, .string (bs l)] 43)).alloc (.cells (arr 32 (bv fun _ => 0)) 37))
  generalize (w.alloc (.cells #[.int .i64 k, .string (bs l)] 43)).alloc (.cells (arr 32 (bv fun _ => 0)) 37) = w1 at BZ L0 c0 c1 ⊢
  by_cases ho : objOk k l
  · have fs := FS.out ho
    have HF' : Hid (∀ W, Calls Tryz.prog 72 #[.agg #[.int .i64 k, .string (bs l)]] W fun e w' => e = .returned (.tuple #[.string (bs (fb k l)), .int .i64 0]) ∧ Below W.heap.size W w') := fun W => (HF.out W).mono fun e w' h => ⟨h.1 ho, h.2.2⟩
    have SO' : Hid (∀ b W, b < W.heap.size → W.cell? ⟨b, 0, none⟩ = some (.string (bs (fb k l))) → Tie W → Calls Tryz.prog 73 #[.slice (some ⟨b, 0, none⟩) 1 1] W fun e w' => e = .returned (.agg (arr 32 (bv D))) ∧ Below W.heap.size W w') := fun b W hb hc ht => by rw [HD.out]; exact Dg.sum_one (bs (fb k l)) b W fs hb hc ht
    have HO := Lib.hid ho
    clear ho fs HF FS
    generalize bs (fb k l) = F at HF' SO'
    go_wp2_with fail
    refine (HF'.out _).mono ?_
    rintro e w2 ⟨rfl, L2⟩
    have B2 := Lib.hid (BZ.out.below L2 BZ.out.lt)
    have L2' := Lib.hid (L0.out.trans (L2.mono L0.out.size))
    clear L2 L0 BZ c0 c1 HF'
    go_upto_region 4 with fail
    have c5 : (w2.alloc (.cells #[.string F] 9)).cell? ⟨w2.heap.size, 0, none⟩ = some (.string F) := cell_of_row _ _ _ _ _ _ (heap_alloc_new _ _)
    have A5 : Below w2.heap.size w2 (w2.alloc (.cells #[.string F] 9)) := (Below.refl _ _).alloc (Nat.le_refl _) _
    have T5 := Lib.hid ((TI.out.below L2'.out).below A5)
    have B5 := Lib.hid (B2.out.below A5 B2.out.lt)
    have L5 := Lib.hid (L2'.out.trans (A5.mono L2'.out.size))
    have HC := SO'.out w2.heap.size (w2.alloc (.cells #[.string F] 9)) (by simp) c5 T5.out
    clear A5 T5 B2 L2' SO' TI c5
    refine wp_region_lit ?_
    refine wpList_valS (v := ?_) (by kernel_rfl) ?_ ?_
    rotate_left 1
    · (go_simp; try with_reducible rfl)
    try simp only [Act.put, tA, tZ, tS]
    refine wpList_valG (by kernel_rfl) (ex_buildS (.tmp 14) rfl F rfl) ?_
    try simp only [Act.put, tA, tZ, tS]
    refine wpList_callG (by kernel_rfl) fun K hK => ?_
    go_simp
    refine (HC).mono ?_
    rintro e w6 ⟨rfl, L6⟩
    refine hK _ _ ?_
    clear hK K
    try simp only [Act.put, tA, tZ, tS]
    have B6 := Lib.hid (B5.out.below L6 B5.out.lt)
    have L6' := Lib.hid (L5.out.trans (L6.mono L5.out.size))
    clear L6 HC B5 L5
    refine wpList_unitG (by kernel_rfl) (ex_store 37 (.tmp 2) (.tmp 16) rfl (w.heap.size + 1) 0 32 (bv D) rfl rfl (B6.out.there 0 32 (by omega)) sz30 (fun _ _ => rfl)) ?_
    try simp only [Act.put, tA, tZ, tS]
    refine wpList_valS (v := ?_) (by kernel_rfl) ?_ ?_
    rotate_left 1
    · (go_simp; try with_reducible rfl)
    try simp only [Act.put, tA, tZ, tS]
    refine wpList_nil ?_
    have B7 := B6.out.over (bv D)
    have KZ := keep_setCells (b := w.heap.size + 1) (arr 32 (bv D)).toList 0 w6
    have L7 : Hid (Below w.heap.size w (w6.setCells (w.heap.size + 1) 0 (arr 32 (bv D)).toList)) := ((Keep.of_below L6'.out (fun b hb _ => hb) : Keep (fun b => b < w.heap.size) w w6).trans (KZ.mono fun b hb _ => by omega)).below (Nat.le_refl _)
    clear B6 L6' KZ
    generalize w6.setCells (w.heap.size + 1) 0 (arr 32 (bv D)).toList = w7 at B7 L7 ⊢
    go_wp2
    exact bodyPost_ret (results_blk2 rfl _ _ (w.heap.size + 1) 37 32 (bv D) B7 _ rfl ty30 rfl sz30) rfl ⟨fun _ => rfl, fun h => absurd HO.out h, L7.out⟩
  · have HF' : Hid (∀ W, Calls Tryz.prog 72 #[.agg #[.int .i64 k, .string (bs l)]] W fun e w' => e = .returned (.tuple #[.string ⟨#[]⟩, .int .i64 1]) ∧ Below W.heap.size W w') := fun W => (HF.out W).mono fun e w' h => ⟨h.2.1 ho, h.2.2⟩
    have HO := Lib.hid ho
    clear ho HF FS
    go_wp2_with fail
    refine (HF'.out _).mono ?_
    rintro e w2 ⟨rfl, L2⟩
    have B2 := Lib.hid (BZ.out.below L2 BZ.out.lt)
    have L2' := Lib.hid (L0.out.trans (L2.mono L0.out.size))
    clear L2 L0 BZ c0 c1 HF'
    go_upto_region 3 with fail
    refine wp_region_lit ?_
    refine wpList_valG (by kernel_rfl) (ex_build0 rfl (bd_zid _)) ?_
    try simp only [Act.put, tA, tZ, tS]
    refine wpList_unitG (by kernel_rfl) (ex_store 37 (.tmp 2) (.tmp 13) rfl (w.heap.size + 1) 0 32 (bv fun _ => 0) rfl rfl (B2.out.there 0 32 (by omega)) sz30 (fun _ _ => rfl)) ?_
    try simp only [Act.put, tA, tZ, tS]
    refine wpList_valS (v := ?_) (by kernel_rfl) ?_ ?_
    rotate_left 1
    · (go_simp; try with_reducible rfl)
    try simp only [Act.put, tA, tZ, tS]
    refine wpList_nil ?_
    have B7 := B2.out.over (bv fun _ => 0)
    have KZ := keep_setCells (b := w.heap.size + 1) (arr 32 (bv fun _ => 0)).toList 0 w2
    have L7 : Hid (Below w.heap.size w (w2.setCells (w.heap.size + 1) 0 (arr 32 (bv fun _ => 0)).toList)) := ((Keep.of_below L2'.out (fun b hb _ => hb) : Keep (fun b => b < w.heap.size) w w2).trans (KZ.mono fun b hb _ => by omega)).below (Nat.le_refl _)
    clear B2 L2' KZ
    generalize w2.setCells (w.heap.size + 1) 0 (arr 32 (bv fun _ => 0)).toList = w7 at B7 L7 ⊢
    go_wp2
    exact bodyPost_ret (results_blk2 rfl _ _ (w.heap.size + 1) 37 32 (bv fun _ => 0) B7 _ rfl ty30 rfl sz30) rfl ⟨fun h => absurd h HO.out, fun _ => rfl, L7.out⟩
end Go.Proofs.YtnmjcpoobabjgaaGreatDoor
