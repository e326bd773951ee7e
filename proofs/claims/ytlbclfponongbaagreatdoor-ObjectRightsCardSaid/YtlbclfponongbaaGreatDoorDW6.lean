import Derived.Test.YtlbclfponongbaaGreatDoorDW4m
import Derived.Deep.RegionHeld3
namespace Go.Proofs.YtlbclfponongbaaGreatDoor.Dg
open Go.RowKit
theorem zero5 : ∀ w, (zeroValue 5).run Tryz.prog w = .ok (.int .u8 0) w := fun _ => by kernel_rfl
theorem blk_cleared {w : World} {hb : Nat} {st : Nat → W32} {blk : Nat → UInt8} {n r : Nat} (h : Blk w hb 96 73 (hv st (fun i => if i = r then 0x80 else blk i) n)) (hr : r < 64) :
    Blk (w.setCells hb (8 + (r + 1)) (List.replicate (63 - r) (Value.int .u8 0))) hb 96 73 (hv st (b1Of blk r) n) := (h.setCells (List.replicate (63 - r) (Value.int .u8 0)) (8 + (r + 1))).congr fun i hi => by
  rw [List.length_replicate]
  unfold hv
  by_cases c : 8 + (r + 1) ≤ i ∧ i < 8 + (r + 1) + (63 - r)
  · rw [if_pos c, if_neg (by omega), if_pos (by omega)]
    rw [List.getD_eq_getElem?_getD, List.getElem?_replicate, if_pos (by omega)]
    simp only [Option.getD_some, bv, b1Of]
    rw [if_neg (by omega), if_neg (by omega)]; rfl
  · rw [if_neg c]
    by_cases c8 : i < 8
    · rw [if_pos c8, if_pos c8]
    · rw [if_neg c8, if_neg c8]
      by_cases c72 : i < 72
      · rw [if_pos c72, if_pos c72]
        unfold bv b1Of
        simp only []
        by_cases ce : i - 8 = r
        · rw [if_pos ce, if_neg (by omega), if_pos ce]
        · rw [if_neg ce, if_pos (by omega)]
      · rw [if_neg c72, if_neg c72]
theorem blk_wiped {w : World} {hb : Nat} {st : Nat → W32} {blk : Nat → UInt8} {n : Nat} (h : Blk w hb 96 73 (hv st blk n)) :
    Blk (w.setCells hb 8 (List.replicate 64 (Value.int .u8 0))) hb 96 73 (hv st (fun _ => 0) n) := (h.setCells (List.replicate 64 (Value.int .u8 0)) 8).congr fun i hi => by
  rw [List.length_replicate]
  unfold hv
  by_cases c : 8 ≤ i ∧ i < 8 + 64
  · rw [if_pos c, if_neg (by omega), if_pos (by omega)]
    rw [List.getD_eq_getElem?_getD, List.getElem?_replicate, if_pos (by omega)]; rfl
  · rw [if_neg c]
    by_cases c8 : i < 8
    · rw [if_pos c8, if_pos c8]
    · rw [if_neg c8, if_neg c8, if_neg (by omega), if_neg (by omega)]
theorem blk_last {w : World} {hb : Nat} {st : Nat → W32} {blk : Nat → UInt8} {n r : Nat} (h : Blk w hb 96 73 (hv st (fun i => if i = r then 0x80 else blk i) n)) (hr : r = 63) :
    Blk w hb 96 73 (hv st (b1Of blk r) n) := h.congr fun i hi => by
  unfold hv
  by_cases c8 : i < 8
  · rw [if_pos c8, if_pos c8]
  · rw [if_neg c8, if_neg c8]
    by_cases c72 : i < 72
    · rw [if_pos c72, if_pos c72]
      unfold bv b1Of
      simp only []
      by_cases ce : i - 8 = r
      · rw [if_pos ce, if_neg (by omega), if_pos ce]
      · rw [if_neg ce, if_pos (by omega)]
    · rw [if_neg c72, if_neg c72]
theorem after8 {w0 w : World} {hb n R : Nat} {st : Nat → W32} {blk : Nat → UInt8} (h : Blk w hb 96 73 (hv st blk n)) (hg : w0.grownBy w (some hb)) (hR : Blk w R 29 32 (bv fun _ => 0)) (hne : R ≠ hb) (c : Nat → W32) :
    ∃ w', w' = ((((((((w.setCell ⟨hb, 0, none⟩ (.int .u32 (U (c 0)))).setCell ⟨hb, 1, none⟩ (.int .u32 (U (c 1)))).setCell ⟨hb, 2, none⟩ (.int .u32 (U (c 2)))).setCell ⟨hb, 3, none⟩ (.int .u32 (U (c 3)))).setCell ⟨hb, 4, none⟩ (.int .u32 (U (c 4)))).setCell ⟨hb, 5, none⟩ (.int .u32 (U (c 5)))).setCell ⟨hb, 6, none⟩ (.int .u32 (U (c 6)))).setCell ⟨hb, 7, none⟩ (.int .u32 (U (c 7)))) ∧
      Blk w' hb 96 73 (hv c blk n) ∧ w0.grownBy w' (some hb) ∧ Blk w' R 29 32 (bv fun _ => 0) :=
  ⟨_, rfl, h.set8 c, grown8 hg _ _ _ _ _ _ _ _, hR.grown (grown8 (grown_refl w _) _ _ _ _ _ _ _ _) hne⟩
theorem wpList_clear0 {P : Program} {w : World} {ops : Array Oper} {rest : List Oper} {o : Oper} {a : Act} {Q : Exit → Act → World → Prop} (hgd : o.guard = none) (hdst : o.dst = none) (d : Operand) (dT : TypeId)
    (ho : o.op = .call { callee := .builtin .clear, args := #[d], argTypes := #[dT] }) (elem : TypeId) (hu : P.underlying dT = some (.slice elem))
    (ad : Option Addr) (c : Nat) (hd : a.eval d = .slice ad 0 c)
    (h : wpList P ops Q rest a w) : wpList P ops Q (o :: rest) a w := by
  refine wpList_plain hgd fun K hK => ?_
  have hrun : (Builtin.clear_ #[dT] o.type #[.slice ad 0 c]).run P w = .ok (.tuple #[]) w := by
    cases ad <;> simp [Builtin.clear_, run_underlying hu]
  unfold Oper.wp
  simp [execOp, ho, resolve, invoke, builtin, hd, hrun, Result.andThen]
  have e : a.put o.dst (.tuple #[]) = a := by rw [hdst]; rfl
  exact hK _ _ (by rw [e]; exact h)
/- what holds of the world while the digest is made -/
def SI (w : World) (hb : Nat) (s : Nat → W32) (b : Nat → UInt8) (n : Nat) (w' : World) : Prop :=
  Blk w' hb 96 73 (hv s b n) ∧ w'.there w.heap.size 0 32 ∧ w.grownBy w' (some hb) ∧ w.heap.size < w'.heap.size
theorem SI.below {w w1 w2 : World} {hb s b n} (h : SI w hb s b n w1) (hb1 : Below w1.heap.size w1 w2) : SI w hb s b n w2 :=
  ⟨h.1.below hb1 h.1.lt, fun j hj => ⟨by rw [hb1.cell h.2.2.2]; exact (h.2.1 j hj).1, by rw [hb1.frozen h.2.2.2]; exact (h.2.1 j hj).2⟩, grown_trans h.2.2.1 (grown_below hb1 _), Nat.lt_of_lt_of_le h.2.2.2 hb1.size⟩
theorem SI.store {w w1 : World} {hb s b n} (h : SI w hb s b n w1) (hlt : hb < w.heap.size) (cs : List Value) : SI w hb s b n (w1.setCells w.heap.size 0 cs) :=
  ⟨h.1.grown (setCells_grown w.heap.size cs 0 w1) (by omega), World.there_setCells h.2.1 _ _ _, by
    have k := setCells_grown w.heap.size cs 0 w1
    exact ⟨k.os.trans h.2.2.1.os, k.tape.trans h.2.2.1.tape, k.output.trans h.2.2.1.output, Nat.le_trans h.2.2.1.size k.size, fun i hi hne => (k.block i (Nat.lt_of_lt_of_le hi h.2.2.1.size) (by simp; omega)).trans (h.2.2.1.block i hi hne)⟩,
    Nat.lt_of_lt_of_le h.2.2.2 (setCells_grown w.heap.size cs 0 w1).size⟩
theorem SI.drew {w w1 : World} {hb s b n} (h : SI w hb s b n w1) : SI w hb s b n w1.drew := ⟨h.1.drew, h.2.1, grown_trans h.2.2.1 (grown_drewN w1 1 _), h.2.2.2⟩
theorem SI.cells {w w' : World} {hb s b n} (h : SI w hb s b n w') {cs : List Value} (hcl : cs.length = 32) : w'.cell? ⟨hb, 0, none⟩ = some (.int .u32 (U (s 0))) ∧ w'.cell? ⟨hb, 1, none⟩ = some (.int .u32 (U (s 1))) ∧ w'.cell? ⟨hb, 2, none⟩ = some (.int .u32 (U (s 2))) ∧ w'.cell? ⟨hb, 3, none⟩ = some (.int .u32 (U (s 3))) ∧
    w'.cell? ⟨hb, 4, none⟩ = some (.int .u32 (U (s 4))) ∧ w'.cell? ⟨hb, 5, none⟩ = some (.int .u32 (U (s 5))) ∧ w'.cell? ⟨hb, 6, none⟩ = some (.int .u32 (U (s 6))) ∧ w'.cell? ⟨hb, 7, none⟩ = some (.int .u32 (U (s 7))) ∧ w'.there w.heap.size 0 cs.length ∧ SI w hb s b n w' :=
  ⟨h.1.cell 0 (by omega), h.1.cell 1 (by omega), h.1.cell 2 (by omega), h.1.cell 3 (by omega), h.1.cell 4 (by omega), h.1.cell 5 (by omega), h.1.cell 6 (by omega), h.1.cell 7 (by omega), by rw [hcl]; exact h.2.1, h⟩
theorem results_mid {P : Program} {fn : Func} {p : Tmp} {ty : TypeId} (h : fn.results = #[.cell p ty]) (tmps : Array Value) (w : World) (g : Nat) (cs : List Value) (d : TypeDesc)
    (hp : tmps.getD p undef = .pointer (some ⟨g, 0, none⟩)) (hr : w.rangeAt g 0 cs) (hu : P.underlying ty = some d) (hd : d.isRow = true) (hi : (P.info? ty).map (·.size) = some cs.length) :
    (results fn tmps).run P w = .ok (.agg cs.toArray) w := by
  have hp' : tmps[p]?.getD undef = .pointer (some ⟨g, 0, none⟩) := by simpa using hp
  simp [results, h, hp', asAddr, run_loadVar_mid w g 0 ty cs d hr hu hd hi]
theorem bytes_lit (s : Nat → W32) (cs : List Value) (hcs : cs = (arr 32 (bv (sByte s))).toList) (w : World) :
    Calls Tryz.prog 66 #[.agg #[.int .u32 (U (s 0)), .int .u32 (U (s 1)), .int .u32 (U (s 2)), .int .u32 (U (s 3)), .int .u32 (U (s 4)), .int .u32 (U (s 5)), .int .u32 (U (s 6)), .int .u32 (U (s 7))]] w fun e w' => e = .returned (.agg (List.toArray cs)) ∧ Below w.heap.size w w' := by
  have h := bytes_any s w
  rw [show arr 8 (wv s) = #[.int .u32 (U (s 0)), .int .u32 (U (s 1)), .int .u32 (U (s 2)), .int .u32 (U (s 3)), .int .u32 (U (s 4)), .int .u32 (U (s 5)), .int .u32 (U (s 6)), .int .u32 (U (s 7))] from rfl] at h
  refine h.mono fun e w' hh => ⟨?_, hh.2⟩
  rw [hh.1, hcs, Array.toArray_toList]
theorem bv_oneCell {cs : List Value} {s : Nat → W32} (hcs : cs = (arr 32 (bv (sByte s))).toList) : ∀ v ∈ cs, v.oneCell' = true := by
  intro v hv
  rw [hcs, Array.mem_toList_iff] at hv
  unfold arr at hv
  rw [Array.mem_ofFn] at hv
  obtain ⟨i, rfl⟩ := hv
  rfl
set_option maxHeartbeats 2000000 in
set_option maxRecDepth 100000 in
theorem end_any (d : Nat → UInt8) (st : Nat → W32) (blk : Nat → UInt8) (n hb : Nat) (w : World) (hn : n ≤ 1073741824) (hB : Blk w hb 96 73 (hv st blk n)) (hI : Inv d st blk n)
    (hh : hb ≠ 1) (hk : ∀ i, i < 64 → w.cell? ⟨1, i, none⟩ = some (wv kk i)) :
    Calls Tryz.prog 47 #[.pointer (some ⟨hb, 0, none⟩)] w fun e w' => e = .returned (.agg (arr 32 (bv (dig d n)))) ∧ w.grownBy w' (some hb) := by
  have hlt := hB.lt
  have HK := Lib.hid hk
  clear hk
  obtain ⟨r, hr⟩ : ∃ r, r = n % 64 := ⟨_, rfl⟩
  have hr64 : r < 64 := by omega
  have er : (n : Int) % 64 = (r : Int) := by omega
  have Hr := Lib.hid hr
  clear hr
  have zr : (0 : Int) ≤ (r : Int) := by omega
  have yr' : (r : Int) < 64 := by omega
  go_enter Tryz.func47, Tryz.ntmps47
  go_wp2_with fail
  refine (begin_any st blk n hb _ (by omega) (hB.alloc _)).mono ?_
  rintro e w1 ⟨rfl, hB1, hg1⟩
  obtain ⟨st1, hst1⟩ : ∃ x, x = (if n = 0 then iv else st) := ⟨_, rfl⟩
  rw [← hst1] at hB1
  have Hst := Lib.hid hst1
  clear hst1
  have R1 : Blk w1 w.heap.size 29 32 (bv fun _ => 0) := Blk.grown (Blk.newAt (E := 29) (n := 32) (bv fun _ => 0) (heap_alloc_new w _) (by rfl)) hg1 (by omega)
  have hg2 : w.grownBy w1 (some hb) := grown_trans (grown_below ((Below.refl _ _).alloc (Nat.le_refl _) _) _) hg1
  clear hB hg1
  have c72 : w1.cell? ⟨hb, 72, none⟩ = some (.int .u64 (n : Int)) := hB1.cell 72 (by omega)
  have cr := hB1.cell (8 + r) (by omega)
  have fr := hB1.frozen (8 + r)
  go_upto_region 4 with fail
  rw [er]
  have hB2 : Blk (w1.setCell ⟨hb, 8 + r, none⟩ (.int .u8 128)) hb 96 73 (hv st1 (fun i => if i = r then 0x80 else blk i) n) := (hB1.set (8 + r) _).congr fun i hi => by
    unfold hv
    by_cases c : i = 8 + r
    · subst c; rw [if_pos rfl, if_neg (by omega), if_pos (by omega), show 8 + r - 8 = r by omega]; simp [bv]
    · rw [if_neg c]
      by_cases c8 : i < 8
      · rw [if_pos c8, if_pos c8]
      · rw [if_neg c8, if_neg c8]
        by_cases c72 : i < 72
        · rw [if_pos c72, if_pos c72]; unfold bv; simp only []; rw [if_neg (by omega)]
        · rw [if_neg c72, if_neg c72]
  have R2 := R1.setOther ⟨hb, 8 + r, none⟩ (.int .u8 128) (by simp; omega)
  have hg3 := grown_trans hg2 (grown_setCell w1 hb (8 + r) (.int .u8 128))
  clear hB1 R1 hg2 c72 cr fr
  generalize w1.setCell ⟨hb, 8 + r, none⟩ (.int .u8 128) = w2 at hB2 R2 hg3 ⊢
  have e64 : IntKind.u64.wrap (8 * (n : Int)) = 8 * (n : Int) := IntWalk.u64_in _ (by omega)
  by_cases h56 : r < 56
  · have hne : ¬ (64 = r + 1) := by omega
    have s1 : (0 : Int) ≤ (r : Int) + 1 := by omega
    have s2 : (r : Int) + 1 ≤ 64 := by omega
    have s3 : ((r : Int) + 1).toNat = r + 1 := by omega
    go_upto_region 8 with (refine wpList_clear rfl rfl (.tmp 23) 59 rfl 5 (.int .u8 0) ty53 zero5 rfl rfl hb (8 + (r + 1)) (63 - r) (63 - r) (by omega) rfl (hB2.there _ _ (by omega)) ?_)
    clear s1 s2 s3 hne
    have hB3 := blk_cleared hB2 hr64
    have R3 := R2.grown (setCells_grown hb (List.replicate (63 - r) (Value.int .u8 0)) (8 + (r + 1)) w2) (by omega)
    have hg4 := grown_trans hg3 (setCells_grown hb (List.replicate (63 - r) (Value.int .u8 0)) (8 + (r + 1)) w2)
    clear hB2 R2 hg3
    generalize w2.setCells hb (8 + (r + 1)) (List.replicate (63 - r) (Value.int .u8 0)) = w3 at hB3 R3 hg4 ⊢
    have c72 : w3.cell? ⟨hb, 72, none⟩ = some (.int .u64 (n : Int)) := hB3.cell 72 (by omega)
    obtain ⟨s2, b2, hfin, hBx⟩ : ∃ s2 b2, Hid (∀ i, i < 8 → cmpr s2 (bLen b2 n 8) i = stB (pad d n) (nbl n) i) ∧ Blk w3 hb 96 73 (hv s2 b2 n) := ⟨st1, b1Of blk r, by
      have h1 := Hst.out
      have h2 := Hr.out
      subst h1 h2
      exact fin_short hI h56, hB3⟩
    clear hB3
    go_wp2_with fail
    go_loopw [46] (fun i wr => ∃ k : Nat, k ≤ 8 ∧ i = .int .i64 k ∧ Blk wr hb 96 73 (hv s2 (bLen b2 n k) n) ∧ Blk wr w.heap.size 29 32 (bv fun _ => 0) ∧ w.grownBy wr (some hb)) (fun i _ => 8 - (intOf i).toNat)
    case atStart => exact ⟨0, by omega, rfl, by rw [bLen_zero]; exact hBx, R3, hg4⟩
    case round =>
      clear hBx R3 hg4 c72
      obtain ⟨k, hk8, rfl, hB4, R4, hg5⟩ := hrel
      by_cases hlt8 : k < 8
      · have a0 : IntKind.i64.wrap (56 + (k : Int)) = 56 + (k : Int) := IntWalk.i64_in _ (by omega)
        have a1 : IntKind.i64.wrap (8 * (k : Int)) = 8 * (k : Int) := IntWalk.i64_in _ (by omega)
        have a2 : IntKind.i64.wrap (56 - 8 * (k : Int)) = 56 - 8 * (k : Int) := IntWalk.i64_in _ (by omega)
        have z0 : (0 : Int) ≤ 56 + (k : Int) := by omega
        have z1 : (0 : Int) ≤ 56 - 8 * (k : Int) := by omega
        have z1' : (8 : Int) * (k : Int) ≤ 56 := by omega
        have z2 : 56 + (k : Int) < 64 := by omega
        have z3 : 56 - 8 * (k : Int) ≤ 64 := by omega
        have t0 : (56 + (k : Int)).toNat = 56 + k := by omega
        have t1 : (56 - 8 * (k : Int)).toNat = 56 - 8 * k := by omega
        go_wp2
        go_still_tail 12, (by kernel_rfl)
        clear a0 a1 a2 t0 t1
        change wpList _ _ _ _ _ wr.drew
        have hB5 := hB4.drew
        have R5 := R4.drew
        have hg6 : w.grownBy wr.drew (some hb) := grown_trans hg5 (grown_drewN wr 1 _)
        clear hB4 R4 hg5
        generalize wr.drew = w5 at hB5 R5 hg6 ⊢
        have cB := hB5.cell (8 + (56 + k)) (by omega)
        have fB := hB5.frozen (8 + (56 + k))
        go_wp2
        go_roundw
        case rel =>
          refine ⟨k + 1, by omega, by go_num, ?_, R5.setOther _ _ (by simp; omega), grown_trans hg6 (grown_setCell _ _ _ _)⟩
          refine (hB5.set (8 + (56 + k)) _).congr fun i hi => ?_
          unfold hv
          by_cases c : i = 8 + (56 + k)
          · subst c
            rw [if_pos rfl, if_neg (by omega), if_pos (by omega), show 8 + (56 + k) - 8 = 56 + k by omega]
            unfold bv
            rw [← bLen_step, if_pos rfl, ← lenByte_val n k hlt8]
          · rw [if_neg c]
            by_cases c8 : i < 8
            · rw [if_pos c8, if_pos c8]
            · rw [if_neg c8, if_neg c8]
              by_cases c72 : i < 72
              · rw [if_pos c72, if_pos c72]; unfold bv; rw [← bLen_step, if_neg (by omega)]
              · rw [if_neg c72, if_neg c72]
        case measure => simp [intOf]; omega
      · have hk8' : k = 8 := by omega
        subst hk8'
        go_wp2_with fail
        have hSI0 : SI w hb s2 (bLen b2 n 8) n wr.drew := SI.drew ⟨hB4, R4.there 0 32 (by omega), hg5, R4.lt⟩
        have Hk0 : Hid (∀ i, i < 64 → wr.drew.cell? ⟨1, i, none⟩ = some (wv kk i)) := fun i hi => cell_grown hSI0.2.2.1 (HK.out i hi) (by simpa using Ne.symm hh)
        have Hc0 : Hid (∀ i, i < 64 → wr.drew.cell? ⟨hb, 8 + i, none⟩ = some (.int .u8 ((bLen b2 n 8 i).toNat : Int))) := fun i hi => by
          rw [hSI0.1.cell (8 + i) (by omega)]; unfold hv; rw [if_neg (by omega), if_pos (by omega), show 8 + i - 8 = i by omega]; rfl
        obtain ⟨cs, hcs⟩ : ∃ cs, cs = (arr 32 (bv (sByte (cmpr s2 (bLen b2 n 8))))).toList := ⟨_, rfl⟩
        have hone := bv_oneCell hcs
        have hcl : cs.length = 32 := by rw [hcs, Array.length_toList, arr_size]
        have Hcs := Lib.hid hcs
        have Hcl := Lib.hid hcl
        have hi26 : (Tryz.prog.info? 29).map (·.size) = some cs.length := by rw [hcl]; exact sz26
        clear hcs hcl hB4 R4 hg5
        go_region_held3 (fun w' => w'.cell? ⟨hb, 0, none⟩ = some (.int .u32 (U (s2 0))) ∧ w'.cell? ⟨hb, 1, none⟩ = some (.int .u32 (U (s2 1))) ∧ w'.cell? ⟨hb, 2, none⟩ = some (.int .u32 (U (s2 2))) ∧ w'.cell? ⟨hb, 3, none⟩ = some (.int .u32 (U (s2 3))) ∧
          w'.cell? ⟨hb, 4, none⟩ = some (.int .u32 (U (s2 4))) ∧ w'.cell? ⟨hb, 5, none⟩ = some (.int .u32 (U (s2 5))) ∧ w'.cell? ⟨hb, 6, none⟩ = some (.int .u32 (U (s2 6))) ∧ w'.cell? ⟨hb, 7, none⟩ = some (.int .u32 (U (s2 7))) ∧ w'.there w.heap.size 0 cs.length ∧ SI w hb s2 (bLen b2 n 8) n w')
          (first | exact hSI0.cells Hcl.out | exact hSI1.cells Hcl.out | exact hSI2.cells Hcl.out | exact (SI.store hSI2 hlt cs).cells Hcl.out)
          (first | (go_at_call 65; refine (turned_lit s2 hb 8 (bLen b2 n 8) wr.drew Hc0.out hSI0.1.lt Hk0.out).mono ?_; rintro e w6 ⟨rfl, hb6⟩; have hSI1 := hSI0.below hb6) | (go_at_call 66; refine (bytes_lit (cmpr s2 (bLen b2 n 8)) cs Hcs.out _).mono ?_; rintro e w7 ⟨rfl, hb7⟩; have hSI2 := hSI1.below hb7))
        have hS3 := SI.store hSI2 hlt cs
        have hr3 : (w7.setCells w.heap.size 0 cs).rangeAt w.heap.size 0 cs := World.rangeAt_setCells_same _ _ _ _ (by rw [Hcl.out]; exact hSI2.2.1)
        generalize w7.setCells w.heap.size 0 cs = w8 at hS3 hr3 ⊢
        go_wp2
        refine bodyPost_ret (v := .agg cs.toArray) (results_mid rfl _ _ w.heap.size cs _ rfl hr3 ty26 rfl hi26) rfl ⟨?_, hS3.2.2.1⟩
        have hc := Hcs.out
        rw [hc, Array.toArray_toList]
        exact congrArg (fun a => Ending.returned (.agg a)) (arr_congr fun i hi => by unfold bv dig; rw [sByte_congr hfin.out i hi])
  · by_cases h63 : r < 63
    · have hne : ¬ (64 = r + 1) := by omega
      have s1 : (0 : Int) ≤ (r : Int) + 1 := by omega
      have s2 : (r : Int) + 1 ≤ 64 := by omega
      have s3 : ((r : Int) + 1).toNat = r + 1 := by omega
      have g56 : (56 : Int) ≤ (r : Int) := by omega
      go_upto_region 6 with (refine wpList_clear rfl rfl (.tmp 23) 59 rfl 5 (.int .u8 0) ty53 zero5 rfl rfl hb (8 + (r + 1)) (63 - r) (63 - r) (by omega) rfl (hB2.there _ _ (by omega)) ?_)
      clear s1 s2 s3 hne
      have hB3 := blk_cleared hB2 hr64
      have R3 := R2.grown (setCells_grown hb (List.replicate (63 - r) (Value.int .u8 0)) (8 + (r + 1)) w2) (by omega)
      have hg4 := grown_trans hg3 (setCells_grown hb (List.replicate (63 - r) (Value.int .u8 0)) (8 + (r + 1)) w2)
      clear hB2 R2 hg3
      generalize w2.setCells hb (8 + (r + 1)) (List.replicate (63 - r) (Value.int .u8 0)) = w3 at hB3 R3 hg4 ⊢
      have hs1 : ∀ i, i < 8 → w3.cell? ⟨hb, i, none⟩ = some (.int .u32 (U (st1 i))) := fun i hi => by rw [hB3.cell i (by omega)]; unfold hv; rw [if_pos hi]; rfl
      have c0 := hs1 0 (by omega)
      have c1 := hs1 1 (by omega)
      have c2 := hs1 2 (by omega)
      have c3 := hs1 3 (by omega)
      have c4 := hs1 4 (by omega)
      have c5 := hs1 5 (by omega)
      have c6 := hs1 6 (by omega)
      have c7 := hs1 7 (by omega)
      clear hs1
      obtain ⟨b1, hb1⟩ : ∃ b1, b1 = b1Of blk r := ⟨_, rfl⟩
      rw [← hb1] at hB3
      have Hb1 := Lib.hid hb1
      clear hb1
      have hB5 := hB3.drew
      have R5 := R3.drew
      have hg6 : w.grownBy w3.drew (some hb) := grown_trans hg4 (grown_drewN w3 1 _)
      have hk5 : Hid (∀ i, i < 64 → w3.drew.cell? ⟨1, i, none⟩ = some (wv kk i)) := fun i hi => cell_grown hg6 (HK.out i hi) (by simpa using Ne.symm hh)
      have hc5 : Hid (∀ i, i < 64 → w3.drew.cell? ⟨hb, 8 + i, none⟩ = some (.int .u8 ((b1 i).toNat : Int))) := fun i hi => by
        rw [hB5.cell (8 + i) (by omega)]; unfold hv; rw [if_neg (by omega), if_pos (by omega), show 8 + i - 8 = i by omega]; rfl
      clear hB3 hg4 R3
      go_region_with ((go_at_call 65; refine (turned_lit st1 hb 8 b1 w3.drew hc5.out hB5.lt hk5.out).mono ?_; rintro e w6 ⟨rfl, hb6⟩; have hB6 := hB5.below hb6 hB5.lt; have R6 := R5.below hb6 R5.lt; have hg7 := grown_trans hg6 (grown_below hb6 (some hb)); clear hb6 c0 c1 c2 c3 c4 c5 c6 c7; have f0 := hB6.frozen 0; have f1 := hB6.frozen 1; have f2 := hB6.frozen 2; have f3 := hB6.frozen 3; have f4 := hB6.frozen 4; have f5 := hB6.frozen 5; have f6 := hB6.frozen 6; have f7 := hB6.frozen 7; have c0 := hB6.cell 0 (by omega); have c1 := hB6.cell 1 (by omega); have c2 := hB6.cell 2 (by omega); have c3 := hB6.cell 3 (by omega); have c4 := hB6.cell 4 (by omega); have c5 := hB6.cell 5 (by omega); have c6 := hB6.cell 6 (by omega); have c7 := hB6.cell 7 (by omega)))
      obtain ⟨w7, e7, hB7, hg8, R7⟩ := after8 hB6 hg7 R6 (by omega) (cmpr st1 b1)
      rw [← e7]
      clear e7 f0 f1 f2 f3 f4 f5 f6 f7 c0 c1 c2 c3 c4 c5 c6 c7 hB6 R6 hg7 hg6 hB5 R5 hk5 hc5
      go_upto_region 8 with (refine wpList_clear rfl rfl (.tmp 40) 59 rfl 5 (.int .u8 0) ty53 zero5 rfl rfl hb 8 64 64 (by omega) rfl (hB7.there _ _ (by omega)) ?_)
      have hB8 := blk_wiped hB7
      have R3 := R7.grown (setCells_grown hb (List.replicate 64 (Value.int .u8 0)) 8 w7) (by omega)
      have hg4 := grown_trans hg8 (setCells_grown hb (List.replicate 64 (Value.int .u8 0)) 8 w7)
      clear hB7 R7 hg8
      generalize w7.setCells hb 8 (List.replicate 64 (Value.int .u8 0)) = w8 at hB8 R3 hg4 ⊢
      have c72 : w8.cell? ⟨hb, 72, none⟩ = some (.int .u64 (n : Int)) := hB8.cell 72 (by omega)
      obtain ⟨s2, b2, hfin, hBx⟩ : ∃ s2 b2, Hid (∀ i, i < 8 → cmpr s2 (bLen b2 n 8) i = stB (pad d n) (nbl n) i) ∧ Blk w8 hb 96 73 (hv s2 b2 n) := ⟨cmpr st1 b1, fun _ => 0, by
        have h1 := Hst.out
        have h2 := Hr.out
        have h3 := Hb1.out
        subst h1 h3 h2
        exact fin_long hI (by omega), hB8⟩
      clear hB8
      go_wp2_with fail
      go_loopw [46] (fun i wr => ∃ k : Nat, k ≤ 8 ∧ i = .int .i64 k ∧ Blk wr hb 96 73 (hv s2 (bLen b2 n k) n) ∧ Blk wr w.heap.size 29 32 (bv fun _ => 0) ∧ w.grownBy wr (some hb)) (fun i _ => 8 - (intOf i).toNat)
      case atStart => exact ⟨0, by omega, rfl, by rw [bLen_zero]; exact hBx, R3, hg4⟩
      case round =>
        clear hBx R3 hg4 c72
        obtain ⟨k, hk8, rfl, hB4, R4, hg5⟩ := hrel
        by_cases hlt8 : k < 8
        · have a0 : IntKind.i64.wrap (56 + (k : Int)) = 56 + (k : Int) := IntWalk.i64_in _ (by omega)
          have a1 : IntKind.i64.wrap (8 * (k : Int)) = 8 * (k : Int) := IntWalk.i64_in _ (by omega)
          have a2 : IntKind.i64.wrap (56 - 8 * (k : Int)) = 56 - 8 * (k : Int) := IntWalk.i64_in _ (by omega)
          have z0 : (0 : Int) ≤ 56 + (k : Int) := by omega
          have z1 : (0 : Int) ≤ 56 - 8 * (k : Int) := by omega
          have z1' : (8 : Int) * (k : Int) ≤ 56 := by omega
          have z2 : 56 + (k : Int) < 64 := by omega
          have z3 : 56 - 8 * (k : Int) ≤ 64 := by omega
          have t0 : (56 + (k : Int)).toNat = 56 + k := by omega
          have t1 : (56 - 8 * (k : Int)).toNat = 56 - 8 * k := by omega
          go_wp2
          go_still_tail 12, (by kernel_rfl)
          clear a0 a1 a2 t0 t1
          change wpList _ _ _ _ _ wr.drew
          have hB5 := hB4.drew
          have R5 := R4.drew
          have hg6 : w.grownBy wr.drew (some hb) := grown_trans hg5 (grown_drewN wr 1 _)
          clear hB4 R4 hg5
          generalize wr.drew = w5 at hB5 R5 hg6 ⊢
          have cB := hB5.cell (8 + (56 + k)) (by omega)
          have fB := hB5.frozen (8 + (56 + k))
          go_wp2
          go_roundw
          case rel =>
            refine ⟨k + 1, by omega, by go_num, ?_, R5.setOther _ _ (by simp; omega), grown_trans hg6 (grown_setCell _ _ _ _)⟩
            refine (hB5.set (8 + (56 + k)) _).congr fun i hi => ?_
            unfold hv
            by_cases c : i = 8 + (56 + k)
            · subst c
              rw [if_pos rfl, if_neg (by omega), if_pos (by omega), show 8 + (56 + k) - 8 = 56 + k by omega]
              unfold bv
              rw [← bLen_step, if_pos rfl, ← lenByte_val n k hlt8]
            · rw [if_neg c]
              by_cases c8 : i < 8
              · rw [if_pos c8, if_pos c8]
              · rw [if_neg c8, if_neg c8]
                by_cases c72 : i < 72
                · rw [if_pos c72, if_pos c72]; unfold bv; rw [← bLen_step, if_neg (by omega)]
                · rw [if_neg c72, if_neg c72]
          case measure => simp [intOf]; omega
        · have hk8' : k = 8 := by omega
          subst hk8'
          go_wp2_with fail
          have hSI0 : SI w hb s2 (bLen b2 n 8) n wr.drew := SI.drew ⟨hB4, R4.there 0 32 (by omega), hg5, R4.lt⟩
          have Hk0 : Hid (∀ i, i < 64 → wr.drew.cell? ⟨1, i, none⟩ = some (wv kk i)) := fun i hi => cell_grown hSI0.2.2.1 (HK.out i hi) (by simpa using Ne.symm hh)
          have Hc0 : Hid (∀ i, i < 64 → wr.drew.cell? ⟨hb, 8 + i, none⟩ = some (.int .u8 ((bLen b2 n 8 i).toNat : Int))) := fun i hi => by
            rw [hSI0.1.cell (8 + i) (by omega)]; unfold hv; rw [if_neg (by omega), if_pos (by omega), show 8 + i - 8 = i by omega]; rfl
          obtain ⟨cs, hcs⟩ : ∃ cs, cs = (arr 32 (bv (sByte (cmpr s2 (bLen b2 n 8))))).toList := ⟨_, rfl⟩
          have hone := bv_oneCell hcs
          have hcl : cs.length = 32 := by rw [hcs, Array.length_toList, arr_size]
          have Hcs := Lib.hid hcs
          have Hcl := Lib.hid hcl
          have hi26 : (Tryz.prog.info? 29).map (·.size) = some cs.length := by rw [hcl]; exact sz26
          clear hcs hcl hB4 R4 hg5
          go_region_held3 (fun w' => w'.cell? ⟨hb, 0, none⟩ = some (.int .u32 (U (s2 0))) ∧ w'.cell? ⟨hb, 1, none⟩ = some (.int .u32 (U (s2 1))) ∧ w'.cell? ⟨hb, 2, none⟩ = some (.int .u32 (U (s2 2))) ∧ w'.cell? ⟨hb, 3, none⟩ = some (.int .u32 (U (s2 3))) ∧
            w'.cell? ⟨hb, 4, none⟩ = some (.int .u32 (U (s2 4))) ∧ w'.cell? ⟨hb, 5, none⟩ = some (.int .u32 (U (s2 5))) ∧ w'.cell? ⟨hb, 6, none⟩ = some (.int .u32 (U (s2 6))) ∧ w'.cell? ⟨hb, 7, none⟩ = some (.int .u32 (U (s2 7))) ∧ w'.there w.heap.size 0 cs.length ∧ SI w hb s2 (bLen b2 n 8) n w')
            (first | exact hSI0.cells Hcl.out | exact hSI1.cells Hcl.out | exact hSI2.cells Hcl.out | exact (SI.store hSI2 hlt cs).cells Hcl.out)
            (first | (go_at_call 65; refine (turned_lit s2 hb 8 (bLen b2 n 8) wr.drew Hc0.out hSI0.1.lt Hk0.out).mono ?_; rintro e w6 ⟨rfl, hb6⟩; have hSI1 := hSI0.below hb6) | (go_at_call 66; refine (bytes_lit (cmpr s2 (bLen b2 n 8)) cs Hcs.out _).mono ?_; rintro e w7 ⟨rfl, hb7⟩; have hSI2 := hSI1.below hb7))
          have hS3 := SI.store hSI2 hlt cs
          have hr3 : (w7.setCells w.heap.size 0 cs).rangeAt w.heap.size 0 cs := World.rangeAt_setCells_same _ _ _ _ (by rw [Hcl.out]; exact hSI2.2.1)
          generalize w7.setCells w.heap.size 0 cs = w8 at hS3 hr3 ⊢
          go_wp2
          refine bodyPost_ret (v := .agg cs.toArray) (results_mid rfl _ _ w.heap.size cs _ rfl hr3 ty26 rfl hi26) rfl ⟨?_, hS3.2.2.1⟩
          have hc := Hcs.out
          rw [hc, Array.toArray_toList]
          exact congrArg (fun a => Ending.returned (.agg a)) (arr_congr fun i hi => by unfold bv dig; rw [sByte_congr hfin.out i hi])
    · have g56 : (56 : Int) ≤ (r : Int) := by omega
      have hr63 : r = 63 := by omega
      have hB3 := blk_last hB2 hr63
      have R3 := R2
      have hg4 := hg3
      clear hB2 R2 hg3
      obtain ⟨w3, rfl⟩ : ∃ w3, w3 = w2 := ⟨_, rfl⟩
      have s3 : ((r : Int) + 1) = 64 := by omega
      go_upto_region 6 with (refine wpList_clear0 rfl rfl (.tmp 23) 59 rfl 5 ty53 (some ⟨hb, 8, none⟩) 0 rfl ?_)
      clear s3 hr63
      have hs1 : ∀ i, i < 8 → w3.cell? ⟨hb, i, none⟩ = some (.int .u32 (U (st1 i))) := fun i hi => by rw [hB3.cell i (by omega)]; unfold hv; rw [if_pos hi]; rfl
      have c0 := hs1 0 (by omega)
      have c1 := hs1 1 (by omega)
      have c2 := hs1 2 (by omega)
      have c3 := hs1 3 (by omega)
      have c4 := hs1 4 (by omega)
      have c5 := hs1 5 (by omega)
      have c6 := hs1 6 (by omega)
      have c7 := hs1 7 (by omega)
      clear hs1
      obtain ⟨b1, hb1⟩ : ∃ b1, b1 = b1Of blk r := ⟨_, rfl⟩
      rw [← hb1] at hB3
      have Hb1 := Lib.hid hb1
      clear hb1
      have hB5 := hB3.drew
      have R5 := R3.drew
      have hg6 : w.grownBy w3.drew (some hb) := grown_trans hg4 (grown_drewN w3 1 _)
      have hk5 : Hid (∀ i, i < 64 → w3.drew.cell? ⟨1, i, none⟩ = some (wv kk i)) := fun i hi => cell_grown hg6 (HK.out i hi) (by simpa using Ne.symm hh)
      have hc5 : Hid (∀ i, i < 64 → w3.drew.cell? ⟨hb, 8 + i, none⟩ = some (.int .u8 ((b1 i).toNat : Int))) := fun i hi => by
        rw [hB5.cell (8 + i) (by omega)]; unfold hv; rw [if_neg (by omega), if_pos (by omega), show 8 + i - 8 = i by omega]; rfl
      clear hB3 hg4 R3
      go_region_with ((go_at_call 65; refine (turned_lit st1 hb 8 b1 w3.drew hc5.out hB5.lt hk5.out).mono ?_; rintro e w6 ⟨rfl, hb6⟩; have hB6 := hB5.below hb6 hB5.lt; have R6 := R5.below hb6 R5.lt; have hg7 := grown_trans hg6 (grown_below hb6 (some hb)); clear hb6 c0 c1 c2 c3 c4 c5 c6 c7; have f0 := hB6.frozen 0; have f1 := hB6.frozen 1; have f2 := hB6.frozen 2; have f3 := hB6.frozen 3; have f4 := hB6.frozen 4; have f5 := hB6.frozen 5; have f6 := hB6.frozen 6; have f7 := hB6.frozen 7; have c0 := hB6.cell 0 (by omega); have c1 := hB6.cell 1 (by omega); have c2 := hB6.cell 2 (by omega); have c3 := hB6.cell 3 (by omega); have c4 := hB6.cell 4 (by omega); have c5 := hB6.cell 5 (by omega); have c6 := hB6.cell 6 (by omega); have c7 := hB6.cell 7 (by omega)))
      obtain ⟨w7, e7, hB7, hg8, R7⟩ := after8 hB6 hg7 R6 (by omega) (cmpr st1 b1)
      rw [← e7]
      clear e7 f0 f1 f2 f3 f4 f5 f6 f7 c0 c1 c2 c3 c4 c5 c6 c7 hB6 R6 hg7 hg6 hB5 R5 hk5 hc5
      go_upto_region 8 with (refine wpList_clear rfl rfl (.tmp 40) 59 rfl 5 (.int .u8 0) ty53 zero5 rfl rfl hb 8 64 64 (by omega) rfl (hB7.there _ _ (by omega)) ?_)
      have hB8 := blk_wiped hB7
      have R3 := R7.grown (setCells_grown hb (List.replicate 64 (Value.int .u8 0)) 8 w7) (by omega)
      have hg4 := grown_trans hg8 (setCells_grown hb (List.replicate 64 (Value.int .u8 0)) 8 w7)
      clear hB7 R7 hg8
      generalize w7.setCells hb 8 (List.replicate 64 (Value.int .u8 0)) = w8 at hB8 R3 hg4 ⊢
      have c72 : w8.cell? ⟨hb, 72, none⟩ = some (.int .u64 (n : Int)) := hB8.cell 72 (by omega)
      obtain ⟨s2, b2, hfin, hBx⟩ : ∃ s2 b2, Hid (∀ i, i < 8 → cmpr s2 (bLen b2 n 8) i = stB (pad d n) (nbl n) i) ∧ Blk w8 hb 96 73 (hv s2 b2 n) := ⟨cmpr st1 b1, fun _ => 0, by
        have h1 := Hst.out
        have h2 := Hr.out
        have h3 := Hb1.out
        subst h1 h3 h2
        exact fin_long hI (by omega), hB8⟩
      clear hB8
      go_wp2_with fail
      go_loopw [46] (fun i wr => ∃ k : Nat, k ≤ 8 ∧ i = .int .i64 k ∧ Blk wr hb 96 73 (hv s2 (bLen b2 n k) n) ∧ Blk wr w.heap.size 29 32 (bv fun _ => 0) ∧ w.grownBy wr (some hb)) (fun i _ => 8 - (intOf i).toNat)
      case atStart => exact ⟨0, by omega, rfl, by rw [bLen_zero]; exact hBx, R3, hg4⟩
      case round =>
        clear hBx R3 hg4 c72
        obtain ⟨k, hk8, rfl, hB4, R4, hg5⟩ := hrel
        by_cases hlt8 : k < 8
        · have a0 : IntKind.i64.wrap (56 + (k : Int)) = 56 + (k : Int) := IntWalk.i64_in _ (by omega)
          have a1 : IntKind.i64.wrap (8 * (k : Int)) = 8 * (k : Int) := IntWalk.i64_in _ (by omega)
          have a2 : IntKind.i64.wrap (56 - 8 * (k : Int)) = 56 - 8 * (k : Int) := IntWalk.i64_in _ (by omega)
          have z0 : (0 : Int) ≤ 56 + (k : Int) := by omega
          have z1 : (0 : Int) ≤ 56 - 8 * (k : Int) := by omega
          have z1' : (8 : Int) * (k : Int) ≤ 56 := by omega
          have z2 : 56 + (k : Int) < 64 := by omega
          have z3 : 56 - 8 * (k : Int) ≤ 64 := by omega
          have t0 : (56 + (k : Int)).toNat = 56 + k := by omega
          have t1 : (56 - 8 * (k : Int)).toNat = 56 - 8 * k := by omega
          go_wp2
          go_still_tail 12, (by kernel_rfl)
          clear a0 a1 a2 t0 t1
          change wpList _ _ _ _ _ wr.drew
          have hB5 := hB4.drew
          have R5 := R4.drew
          have hg6 : w.grownBy wr.drew (some hb) := grown_trans hg5 (grown_drewN wr 1 _)
          clear hB4 R4 hg5
          generalize wr.drew = w5 at hB5 R5 hg6 ⊢
          have cB := hB5.cell (8 + (56 + k)) (by omega)
          have fB := hB5.frozen (8 + (56 + k))
          go_wp2
          go_roundw
          case rel =>
            refine ⟨k + 1, by omega, by go_num, ?_, R5.setOther _ _ (by simp; omega), grown_trans hg6 (grown_setCell _ _ _ _)⟩
            refine (hB5.set (8 + (56 + k)) _).congr fun i hi => ?_
            unfold hv
            by_cases c : i = 8 + (56 + k)
            · subst c
              rw [if_pos rfl, if_neg (by omega), if_pos (by omega), show 8 + (56 + k) - 8 = 56 + k by omega]
              unfold bv
              rw [← bLen_step, if_pos rfl, ← lenByte_val n k hlt8]
            · rw [if_neg c]
              by_cases c8 : i < 8
              · rw [if_pos c8, if_pos c8]
              · rw [if_neg c8, if_neg c8]
                by_cases c72 : i < 72
                · rw [if_pos c72, if_pos c72]; unfold bv; rw [← bLen_step, if_neg (by omega)]
                · rw [if_neg c72, if_neg c72]
          case measure => simp [intOf]; omega
        · have hk8' : k = 8 := by omega
          subst hk8'
          go_wp2_with fail
          have hSI0 : SI w hb s2 (bLen b2 n 8) n wr.drew := SI.drew ⟨hB4, R4.there 0 32 (by omega), hg5, R4.lt⟩
          have Hk0 : Hid (∀ i, i < 64 → wr.drew.cell? ⟨1, i, none⟩ = some (wv kk i)) := fun i hi => cell_grown hSI0.2.2.1 (HK.out i hi) (by simpa using Ne.symm hh)
          have Hc0 : Hid (∀ i, i < 64 → wr.drew.cell? ⟨hb, 8 + i, none⟩ = some (.int .u8 ((bLen b2 n 8 i).toNat : Int))) := fun i hi => by
            rw [hSI0.1.cell (8 + i) (by omega)]; unfold hv; rw [if_neg (by omega), if_pos (by omega), show 8 + i - 8 = i by omega]; rfl
          obtain ⟨cs, hcs⟩ : ∃ cs, cs = (arr 32 (bv (sByte (cmpr s2 (bLen b2 n 8))))).toList := ⟨_, rfl⟩
          have hone := bv_oneCell hcs
          have hcl : cs.length = 32 := by rw [hcs, Array.length_toList, arr_size]
          have Hcs := Lib.hid hcs
          have Hcl := Lib.hid hcl
          have hi26 : (Tryz.prog.info? 29).map (·.size) = some cs.length := by rw [hcl]; exact sz26
          clear hcs hcl hB4 R4 hg5
          go_region_held3 (fun w' => w'.cell? ⟨hb, 0, none⟩ = some (.int .u32 (U (s2 0))) ∧ w'.cell? ⟨hb, 1, none⟩ = some (.int .u32 (U (s2 1))) ∧ w'.cell? ⟨hb, 2, none⟩ = some (.int .u32 (U (s2 2))) ∧ w'.cell? ⟨hb, 3, none⟩ = some (.int .u32 (U (s2 3))) ∧
            w'.cell? ⟨hb, 4, none⟩ = some (.int .u32 (U (s2 4))) ∧ w'.cell? ⟨hb, 5, none⟩ = some (.int .u32 (U (s2 5))) ∧ w'.cell? ⟨hb, 6, none⟩ = some (.int .u32 (U (s2 6))) ∧ w'.cell? ⟨hb, 7, none⟩ = some (.int .u32 (U (s2 7))) ∧ w'.there w.heap.size 0 cs.length ∧ SI w hb s2 (bLen b2 n 8) n w')
            (first | exact hSI0.cells Hcl.out | exact hSI1.cells Hcl.out | exact hSI2.cells Hcl.out | exact (SI.store hSI2 hlt cs).cells Hcl.out)
            (first | (go_at_call 65; refine (turned_lit s2 hb 8 (bLen b2 n 8) wr.drew Hc0.out hSI0.1.lt Hk0.out).mono ?_; rintro e w6 ⟨rfl, hb6⟩; have hSI1 := hSI0.below hb6) | (go_at_call 66; refine (bytes_lit (cmpr s2 (bLen b2 n 8)) cs Hcs.out _).mono ?_; rintro e w7 ⟨rfl, hb7⟩; have hSI2 := hSI1.below hb7))
          have hS3 := SI.store hSI2 hlt cs
          have hr3 : (w7.setCells w.heap.size 0 cs).rangeAt w.heap.size 0 cs := World.rangeAt_setCells_same _ _ _ _ (by rw [Hcl.out]; exact hSI2.2.1)
          generalize w7.setCells w.heap.size 0 cs = w8 at hS3 hr3 ⊢
          go_wp2
          refine bodyPost_ret (v := .agg cs.toArray) (results_mid rfl _ _ w.heap.size cs _ rfl hr3 ty26 rfl hi26) rfl ⟨?_, hS3.2.2.1⟩
          have hc := Hcs.out
          rw [hc, Array.toArray_toList]
          exact congrArg (fun a => Ending.returned (.agg a)) (arr_congr fun i hi => by unfold bv dig; rw [sByte_congr hfin.out i hi])
end Go.Proofs.YtlbclfponongbaaGreatDoor.Dg
