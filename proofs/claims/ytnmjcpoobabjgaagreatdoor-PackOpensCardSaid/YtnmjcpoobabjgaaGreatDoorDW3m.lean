import Derived.Test.YtnmjcpoobabjgaaGreatDoorO23m
import Derived.Deep.WholeRow
import Derived.Lib.Hide
import Derived.Deep.RegionWith
set_option linter.unusedVariables false
set_option linter.unusedSimpArgs false
namespace Go.Proofs.YtnmjcpoobabjgaaGreatDoor.Dg
open Go.RowKit
attribute [local go_sem] U_xor U_and U_or U_add U_addm U_not
theorem ty31 : Tryz.prog.underlying 137 = some (.array 8 113) := by kernel_rfl
theorem sz31 : (Tryz.prog.info? 137).map (·.size) = some 8 := by kernel_rfl
set_option maxHeartbeats 2000000 in
set_option maxRecDepth 100000 in
theorem turned_any (st : Nat → W32) (hb off : Nat) (f : Nat → UInt8) (w : World)
    (hc : ∀ i, i < 64 → w.cell? ⟨hb, off + i, none⟩ = some (.int .u8 ((f i).toNat : Int))) (hlt : hb < w.heap.size)
    (hk : ∀ i, i < 64 → w.cell? ⟨1, i, none⟩ = some (wv kk i)) :
    Calls Tryz.prog 114 #[.agg (arr 8 (wv st)), .pointer (some ⟨hb, off, none⟩)] w fun e w' => e = .returned (.agg (arr 8 (wv (cmpr st f)))) ∧ Below w.heap.size w w' := by
  have h0 : 1 < w.heap.size := block_lt_of_cell (hk 0 (by omega))
  go_enter Tryz.func114, Tryz.ntmps114
  go_wp2_with fail
  have S0 : ∀ A B, Blk ((w.alloc (.cells (arr 8 (wv st)) A)).alloc B) w.heap.size A 8 (wv st) := fun A B => Blk.newAt _ (heap_alloc2_old w _ _) rfl
  have L0 : ∀ A B, Below w.heap.size w ((w.alloc A).alloc B) := fun A B => ((Below.refl _ _).alloc (Nat.le_refl _) _).alloc (by simp) _
  have Z0 : ∀ A B, ((w.alloc A).alloc B).heap.size = w.heap.size + 2 := fun A B => by show ((w.heap.push A).push B).size = _; simp
  refine (words_any hb off f _ (fun i hi => by rw [(L0 _ _).cell hlt]; exact hc i hi) (by simp; omega)).mono ?_
  rintro e w1 ⟨rfl, hb1⟩
  have S1 := (S0 _ _).below hb1 (by simp <;> omega)
  have R1 : Blk w1 (w.heap.size + 1) 137 8 (fun _ => .int .u32 0) := Blk.below (Blk.newAt _ (heap_alloc2_new w _ _) rfl) hb1 (by simp <;> omega)
  have L1 := (L0 _ _).trans (hb1.mono (by simp; omega))
  have Z1 : w.heap.size + 2 ≤ w1.heap.size := by have := hb1.size; simpa using this
  clear hb1 S0 L0 Z0
  have hk1 : ∀ i, i < 64 → w1.cell? ⟨1, i, none⟩ = some (wv kk i) := fun i hi => by rw [L1.cell h0]; exact hk i hi
  clear hc hk
  go_upto_region 2 with (refine wpList_store_blk rfl 170 (.tmp 5) (.tmp 18) rfl w1.heap.size 64 (fun j => .int .u32 (U (sch (wd f) j))) (fun _ => .int .u32 0) rfl rfl 170 (Blk.newAt _ (heap_alloc_new _ _) rfl) sz58 (fun _ _ => rfl) ?_)
  rw [World.setRow_alloc_new]
  have S2 := S1.alloc (.cells (arr 64 fun j => .int .u32 (U (sch (wd f) j))) 170)
  have R2 := R1.alloc (.cells (arr 64 fun j => .int .u32 (U (sch (wd f) j))) 170)
  have L2 := L1.alloc (by omega) (.cells (arr 64 fun j => .int .u32 (U (sch (wd f) j))) 170)
  have W2 : Blk (w1.alloc (.cells (arr 64 fun j => .int .u32 (U (sch (wd f) j))) 170)) w1.heap.size 170 64 (wv (sch (wd f))) := Blk.newAt _ (heap_alloc_new _ _) rfl
  have hk2 : ∀ i, i < 64 → (w1.alloc (.cells (arr 64 fun j => .int .u32 (U (sch (wd f) j))) 170)).cell? ⟨1, i, none⟩ = some (wv kk i) := fun i hi => by
    rw [L2.cell h0, ← L1.cell h0]; exact hk1 i hi
  clear hk1 S1 R1 L1
  generalize (w1.alloc (.cells (arr 64 fun j => .int .u32 (U (sch (wd f) j))) 170)) = w2 at S2 R2 L2 W2 hk2 ⊢
  have c0 : w2.cell? ⟨w.heap.size, 0, none⟩ = some (.int .u32 (U (st 0))) := S2.cell 0 (by omega)
  have c1 : w2.cell? ⟨w.heap.size, 1, none⟩ = some (.int .u32 (U (st 1))) := S2.cell 1 (by omega)
  have c2 : w2.cell? ⟨w.heap.size, 2, none⟩ = some (.int .u32 (U (st 2))) := S2.cell 2 (by omega)
  have c3 : w2.cell? ⟨w.heap.size, 3, none⟩ = some (.int .u32 (U (st 3))) := S2.cell 3 (by omega)
  have c4 : w2.cell? ⟨w.heap.size, 4, none⟩ = some (.int .u32 (U (st 4))) := S2.cell 4 (by omega)
  have c5 : w2.cell? ⟨w.heap.size, 5, none⟩ = some (.int .u32 (U (st 5))) := S2.cell 5 (by omega)
  have c6 : w2.cell? ⟨w.heap.size, 6, none⟩ = some (.int .u32 (U (st 6))) := S2.cell 6 (by omega)
  have c7 : w2.cell? ⟨w.heap.size, 7, none⟩ = some (.int .u32 (U (st 7))) := S2.cell 7 (by omega)
  go_quiet (fail)
  clear c0 c1 c2 c3 c4 c5 c6 c7
  go_wp2
  go_loopw [6, 7, 8, 9, 10, 11, 12, 13, 35] (fun va vb vc vd ve vf vg vh i wr => ∃ (k : Nat) (s : St), k ≤ 64 ∧ i = .int .i64 k ∧ s = rnds (sch (wd f)) (stOf st) k ∧
      va = .int .u32 (U s.a) ∧ vb = .int .u32 (U s.b) ∧ vc = .int .u32 (U s.c) ∧ vd = .int .u32 (U s.d) ∧ ve = .int .u32 (U s.e) ∧ vf = .int .u32 (U s.f) ∧ vg = .int .u32 (U s.g) ∧ vh = .int .u32 (U s.h) ∧
      Blk wr w.heap.size 137 8 (wv st) ∧ Blk wr (w.heap.size + 1) 137 8 (fun _ => .int .u32 0) ∧ Blk wr w1.heap.size 170 64 (wv (sch (wd f))) ∧ Below w.heap.size w wr ∧ (∀ i, i < 64 → wr.cell? ⟨1, i, none⟩ = some (wv kk i)))
    (fun _ _ _ _ _ _ _ _ i _ => 64 - (intOf i).toNat)
  case atStart => exact ⟨0, stOf st, by omega, rfl, rfl, rfl, rfl, rfl, rfl, rfl, rfl, rfl, rfl, S2.drewN _, R2.drewN _, W2.drewN _, below_drewN L2 _, hk2⟩
  case round =>
    clear S2 R2 L2 W2 hk2
    obtain ⟨k, s, hkk, rfl, hs, rfl, rfl, rfl, rfl, rfl, rfl, rfl, rfl, S2, R2, W2, L2, hk2⟩ := hrel
    have Hs := Lib.hid hs
    clear hs
    by_cases hlt : k < 64
    · have ck : wr.cell? ⟨1, k, none⟩ = some (.int .u32 (U (kk k))) := hk2 k hlt
      have cw : wr.cell? ⟨w1.heap.size, k, none⟩ = some (.int .u32 (U (sch (wd f) k))) := W2.cell k hlt
      have zk : (0 : Int) ≤ (k : Int) := by omega
      have yk : (k : Int) < 64 := by omega
      have Hk := Lib.hid hk2
      clear hk2
      go_wp2
      go_quiet ((go_at_call 130; exact Calls.quiet_of_same ((bS1_any _ _).mono fun e w' h => ⟨h.1, h.2.symm⟩)))
      go_wp2_with (go_at_call 131; refine (bS0_any _ _).mono ?_; rintro e w' ⟨rfl, rfl⟩)
      go_roundw
      case rel =>
        refine ⟨k + 1, rnd (sch (wd f)) k s, by omega, by go_num, ?_, rfl, rfl, rfl, rfl, rfl, rfl, rfl, rfl, S2.drewN _, R2.drewN _, W2.drewN _, below_drewN L2 _, Hk.out⟩
        have := Hs.out
        rw [this]; rfl
      case measure => simp [intOf]; omega
    · have e : Hid (k = 64) := by show k = 64; omega
      have c0 : wr.cell? ⟨w.heap.size, 0, none⟩ = some (.int .u32 (U (st 0))) := S2.cell 0 (by omega)
      have c1 : wr.cell? ⟨w.heap.size, 1, none⟩ = some (.int .u32 (U (st 1))) := S2.cell 1 (by omega)
      have c2 : wr.cell? ⟨w.heap.size, 2, none⟩ = some (.int .u32 (U (st 2))) := S2.cell 2 (by omega)
      have c3 : wr.cell? ⟨w.heap.size, 3, none⟩ = some (.int .u32 (U (st 3))) := S2.cell 3 (by omega)
      have c4 : wr.cell? ⟨w.heap.size, 4, none⟩ = some (.int .u32 (U (st 4))) := S2.cell 4 (by omega)
      have c5 : wr.cell? ⟨w.heap.size, 5, none⟩ = some (.int .u32 (U (st 5))) := S2.cell 5 (by omega)
      have c6 : wr.cell? ⟨w.heap.size, 6, none⟩ = some (.int .u32 (U (st 6))) := S2.cell 6 (by omega)
      have c7 : wr.cell? ⟨w.heap.size, 7, none⟩ = some (.int .u32 (U (st 7))) := S2.cell 7 (by omega)
      have Hk := Lib.hid hk2
      clear hk2
      go_wp2_with (refine wpList_store_blk rfl 137 (.tmp 4) (.tmp 118) rfl (w.heap.size + 1) 8 (fun i => .int .u32 (U (st i + ofSt s i))) (fun _ => .int .u32 0) rfl rfl 137 R2 sz31 (fun _ _ => rfl) ?_)
      have R3 := R2.setRow (fun i => .int .u32 (U (st i + ofSt s i)))
      have L3 := below_setRow L2 (Nat.le_succ _) (arr 8 (fun i => .int .u32 (U (st i + ofSt s i))))
      generalize wr.setRow (w.heap.size + 1) (arr 8 (fun i => .int .u32 (U (st i + ofSt s i)))) = w3 at R3 L3 ⊢
      refine bodyPost_ret (v := .agg (arr 8 (fun i => .int .u32 (U (st i + ofSt s i))))) (results_blk rfl _ _ (w.heap.size + 1) 137 8 _ R3 _ rfl ty31 rfl sz31) rfl ⟨?_, L3⟩
      have hk64 : k = 64 := e.out
      subst hk64
      have hs := Hs.out
      subst hs
      exact congrArg (fun a => Ending.returned (.agg a)) (arr_congr fun i hi => rfl)
end Go.Proofs.YtnmjcpoobabjgaaGreatDoor.Dg
namespace Go.Proofs.YtnmjcpoobabjgaaGreatDoor.Dg
/- the first state -/
def ivl : List W32 := [0x6a09e667#32, 0xbb67ae85#32, 0x3c6ef372#32, 0xa54ff53a#32, 0x510e527f#32, 0x9b05688c#32, 0x1f83d9ab#32, 0x5be0cd19#32]
def iv (i : Nat) : W32 := ivl.getD i 0#32
/- the state behind m blocks of a text -/
def stB (d : Nat → UInt8) : Nat → Nat → W32
  | 0 => iv
  | m + 1 => cmpr (stB d m) (fun i => d (64 * m + i))
/- how many blocks a text of n bytes is lengthened to; its bytes then -/
def nbl (n : Nat) : Nat := (n + 8) / 64 + 1
def lenByte (n j : Nat) : UInt8 := UInt8.ofNat (8 * n / 256 ^ (7 - j))
def pad (d : Nat → UInt8) (n i : Nat) : UInt8 :=
  if i < n then d i else if i = n then 0x80 else if i + 8 < 64 * nbl n then 0 else lenByte n (i + 8 - 64 * nbl n)
/- byte i of a state's words -/
def sByte (s : Nat → W32) (i : Nat) : UInt8 := UInt8.ofNat ((s (i / 4) >>> (24 - 8 * (i % 4))).toNat)
def dig (d : Nat → UInt8) (n : Nat) (i : Nat) : UInt8 := sByte (stB (pad d n) (nbl n)) i

theorem sByte_val (s : Nat → W32) (k m : Nat) (hm : m < 4) : U (s k) / 2 ^ (24 - 8 * m) % 256 = ((sByte s (4 * k + m)).toNat : Int) := by
  unfold sByte
  rw [show (4 * k + m) / 4 = k by omega, show (4 * k + m) % 4 = m by omega, U_shr, UInt8.toNat_ofNat']
  unfold U
  rw [Int.natCast_emod]; rfl
theorem sch_congr {d e : Nat → W32} (h : ∀ j, j < 16 → d j = e j) : ∀ n j, j < 16 + n → tab d n j = tab e n j := by
  intro n
  induction n with
  | zero => intro j hj; exact h j (by omega)
  | succ n ih =>
    intro j hj
    unfold tab
    by_cases e1 : j = 16 + n
    · rw [if_pos e1, if_pos e1, ih _ (by omega), ih _ (by omega), ih _ (by omega), ih _ (by omega)]
    · rw [if_neg e1, if_neg e1, ih _ (by omega)]
theorem rnds_congr {u v : Nat → W32} (s : St) : ∀ n, (∀ j, j < n → u j = v j) → rnds u s n = rnds v s n := by
  intro n
  induction n with
  | zero => intro _; rfl
  | succ n ih =>
    intro h
    unfold rnds
    rw [ih (fun j hj => h j (by omega))]
    unfold rnd Tt
    rw [h n (by omega)]
theorem cmpr_congr {s t : Nat → W32} {f g : Nat → UInt8} (hs : ∀ i, i < 8 → s i = t i) (hf : ∀ i, i < 64 → f i = g i) (i : Nat) (hi : i < 8) : cmpr s f i = cmpr t g i := by
  unfold cmpr
  have e1 : stOf s = stOf t := by
    unfold stOf
    rw [hs 0 (by omega), hs 1 (by omega), hs 2 (by omega), hs 3 (by omega), hs 4 (by omega), hs 5 (by omega), hs 6 (by omega), hs 7 (by omega)]
  have e2 : ∀ j, j < 64 → sch (wd f) j = sch (wd g) j := fun j hj => sch_congr (fun j hj => by
    unfold wd; rw [hf _ (by omega), hf _ (by omega), hf _ (by omega), hf _ (by omega)]) 48 j (by omega)
  rw [hs i hi, e1, rnds_congr _ 64 e2]
theorem stB_congr {d e : Nat → UInt8} (m : Nat) (h : ∀ i, i < 64 * m → d i = e i) (i : Nat) (hi : i < 8) : stB d m i = stB e m i := by
  induction m generalizing i with
  | zero => rfl
  | succ m ih =>
    exact cmpr_congr (fun j hj => ih (fun k hk => h k (by omega)) j hj) (fun j hj => h _ (by omega)) i hi
/- what the hash holds when n bytes of d were taken -/
def Inv (d : Nat → UInt8) (st : Nat → W32) (blk : Nat → UInt8) (n : Nat) : Prop :=
  (0 < n → ∀ i, i < 8 → st i = stB d (n / 64) i) ∧ ∀ i, i < n % 64 → blk i = d (64 * (n / 64) + i)
theorem Inv.congr {d e : Nat → UInt8} {st blk n} (h : Inv d st blk n) (hde : ∀ i, i < n → d i = e i) : Inv e st blk n :=
  ⟨fun h0 i hi => (h.1 h0 i hi).trans (stB_congr _ (fun k hk => hde k (by omega)) i hi), fun i hi => (h.2 i hi).trans (hde _ (by omega))⟩
theorem inv_start {d : Nat → UInt8} {st blk n} (h : Inv d st blk n) (i : Nat) (hi : i < 8) : (if n = 0 then iv else st) i = stB d (n / 64) i := by
  by_cases h0 : n = 0
  · subst h0; rfl
  · rw [if_neg h0]; exact h.1 (by omega) i hi
/- m bytes more, the block not yet whole -/
theorem inv_part {d : Nat → UInt8} {st blk n} (h : Inv d st blk n) (m : Nat) (b' : Nat → UInt8) (hm : n % 64 + m < 64) (hb : ∀ i, i < n % 64 + m → b' i = if i < n % 64 then blk i else d (64 * (n / 64) + i)) :
    Inv d (if n = 0 then iv else st) b' (n + m) := by
  have e1 : (n + m) / 64 = n / 64 := by omega
  have e2 : (n + m) % 64 = n % 64 + m := by omega
  refine ⟨fun _ i hi => by rw [e1]; exact inv_start h i hi, fun i hi => ?_⟩
  rw [e2] at hi
  rw [e1, hb i hi]
  by_cases c : i < n % 64
  · rw [if_pos c]; exact h.2 i c
  · rw [if_neg c]
theorem inv_full {d : Nat → UInt8} {st blk n} (h : Inv d st blk n) (m : Nat) (b' : Nat → UInt8) (hm : n % 64 + m = 64) (hb : ∀ i, i < 64 → b' i = if i < n % 64 then blk i else d (64 * (n / 64) + i)) :
    Inv d (cmpr (if n = 0 then iv else st) b') b' (n + m) := by
  have e1 : (n + m) / 64 = n / 64 + 1 := by omega
  have e2 : (n + m) % 64 = 0 := by omega
  refine ⟨fun _ i hi => ?_, fun i hi => by omega⟩
  rw [e1]
  refine cmpr_congr (fun j hj => inv_start h j hj) (fun j hj => ?_) i hi
  rw [hb j hj]
  by_cases c : j < n % 64
  · rw [if_pos c]; exact h.2 j c
  · rw [if_neg c]
theorem pad_lt {d : Nat → UInt8} {n i : Nat} (h : i < n) : pad d n i = d i := by unfold pad; rw [if_pos h]
/- how the text ends -/
def b1Of (blk : Nat → UInt8) (r i : Nat) : UInt8 := if i < r then blk i else if i = r then 0x80 else 0
def bLen (b : Nat → UInt8) (n k i : Nat) : UInt8 := if 56 ≤ i ∧ i < 56 + k then lenByte n (i - 56) else b i
theorem bLen_zero (b : Nat → UInt8) (n : Nat) : bLen b n 0 = b := funext fun i => by unfold bLen; rw [if_neg (by omega)]
theorem bLen_step (b : Nat → UInt8) (n k i : Nat) : (if i = 56 + k then lenByte n k else bLen b n k i) = bLen b n (k + 1) i := by
  unfold bLen
  by_cases c : i = 56 + k
  · rw [if_pos c, if_pos (by omega), show i - 56 = k by omega]
  · rw [if_neg c]
    by_cases c2 : 56 ≤ i ∧ i < 56 + k
    · rw [if_pos c2, if_pos (by omega)]
    · rw [if_neg c2, if_neg (by omega)]
theorem stB_pad {d : Nat → UInt8} {n : Nat} (i : Nat) (hi : i < 8) : stB (pad d n) (n / 64) i = stB d (n / 64) i :=
  stB_congr _ (fun k hk => pad_lt (by omega)) i hi
theorem fin_short {d : Nat → UInt8} {st blk n} (h : Inv d st blk n) (hr : n % 64 < 56) (i : Nat) (hi : i < 8) :
    cmpr (if n = 0 then iv else st) (bLen (b1Of blk (n % 64)) n 8) i = stB (pad d n) (nbl n) i := by
  have e : nbl n = n / 64 + 1 := by unfold nbl; omega
  rw [e]
  refine cmpr_congr (fun j hj => (inv_start h j hj).trans (stB_pad j hj).symm) (fun j hj => ?_) i hi
  unfold bLen b1Of pad
  rw [e]
  by_cases c : j < n % 64
  · rw [if_neg (by omega), if_pos c, if_pos (by omega), h.2 j c]
  · by_cases c2 : j = n % 64
    · rw [if_neg (by omega), if_neg c, if_pos c2, if_neg (by omega), if_pos (by omega)]
    · by_cases c3 : j < 56
      · rw [if_neg (by omega), if_neg c, if_neg c2, if_neg (by omega), if_neg (by omega), if_pos (by omega)]
      · rw [if_pos (by omega), if_neg (by omega), if_neg (by omega), if_neg (by omega), show 64 * (n / 64) + j + 8 - 64 * (n / 64 + 1) = j - 56 by omega]
theorem fin_long {d : Nat → UInt8} {st blk n} (h : Inv d st blk n) (hr : 56 ≤ n % 64) (i : Nat) (hi : i < 8) :
    cmpr (cmpr (if n = 0 then iv else st) (b1Of blk (n % 64))) (bLen (fun _ => 0) n 8) i = stB (pad d n) (nbl n) i := by
  have e : nbl n = n / 64 + 1 + 1 := by unfold nbl; omega
  rw [e]
  refine cmpr_congr (fun j hj => ?_) (fun j hj => ?_) i hi
  · refine cmpr_congr (fun j hj => (inv_start h j hj).trans (stB_pad j hj).symm) (fun j hj => ?_) j hj
    unfold b1Of pad
    rw [e]
    by_cases c : j < n % 64
    · rw [if_pos c, if_pos (by omega), h.2 j c]
    · by_cases c2 : j = n % 64
      · rw [if_neg c, if_pos c2, if_neg (by omega), if_pos (by omega)]
      · rw [if_neg c, if_neg c2, if_neg (by omega), if_neg (by omega), if_pos (by omega)]
  · unfold bLen pad
    rw [e]
    by_cases c3 : j < 56
    · rw [if_neg (by omega), if_neg (by omega), if_neg (by omega), if_pos (by omega)]
    · rw [if_pos (by omega), if_neg (by omega), if_neg (by omega), if_neg (by omega), show 64 * (n / 64 + 1) + j + 8 - 64 * (n / 64 + 1 + 1) = j - 56 by omega]
theorem lenByte_val (n k : Nat) (hk : k < 8) : (8 * (n : Int)) / 2 ^ (56 - 8 * k) % 256 = ((lenByte n k).toNat : Int) := by
  unfold lenByte
  rw [UInt8.toNat_ofNat', show 256 ^ (7 - k) = 2 ^ (56 - 8 * k) by rw [show 256 = 2 ^ 8 by rfl, ← Nat.pow_mul, show 8 * (7 - k) = 56 - 8 * k by omega]]
  rw [Int.natCast_emod, Int.natCast_ediv, Int.natCast_mul, Int.natCast_pow]; rfl
theorem sByte_congr {s t : Nat → W32} (h : ∀ i, i < 8 → s i = t i) (i : Nat) (hi : i < 32) : sByte s i = sByte t i := by
  unfold sByte; rw [h _ (by omega)]
theorem dig_congr {d e : Nat → UInt8} {n : Nat} (h : ∀ i, i < n → d i = e i) (i : Nat) (hi : i < 32) : dig d n i = dig e n i := by
  unfold dig sByte
  rw [stB_congr (nbl n) (d := pad d n) (e := pad e n) (fun k hk => by
    unfold pad
    by_cases c : k < n
    · rw [if_pos c, if_pos c, h k c]
    · rw [if_neg c, if_neg c]) (i / 4) (by omega)]
end Go.Proofs.YtnmjcpoobabjgaaGreatDoor.Dg
namespace Go.Proofs.YtnmjcpoobabjgaaGreatDoor.Dg
open Go.RowKit
set_option maxHeartbeats 1000000 in
set_option maxRecDepth 100000 in
theorem first_any (w : World) :
    Calls Tryz.prog 128 #[] w fun e w' => e = .returned (.agg (arr 8 (wv iv))) ∧ Below w.heap.size w w' := by
  go_enter Tryz.func128, Tryz.ntmps128
  go_wp2
  refine bodyPost_ret (v := .agg (arr 8 (wv iv))) (results_blk rfl _ _ w.heap.size 137 8 (wv iv) (Blk.newAt _ (heap_alloc_new _ _) rfl) _ rfl ty31 rfl sz31) rfl ⟨rfl, (Below.refl _ _).alloc (Nat.le_refl _) _⟩
set_option maxHeartbeats 1000000 in
set_option maxRecDepth 100000 in
theorem begin_any (st : Nat → W32) (blk : Nat → UInt8) (n hb : Nat) (w : World) (hn : n < 1099511627776) (hB : Blk w hb 156 73 (hv st blk n)) :
    Calls Tryz.prog 113 #[.pointer (some ⟨hb, 0, none⟩)] w fun e w' => e = .returned (.tuple #[]) ∧ Blk w' hb 156 73 (hv (if n = 0 then iv else st) blk n) ∧ w.grownBy w' (some hb) := by
  have cn : w.cell? ⟨hb, 72, none⟩ = some (.int .u64 (n : Int)) := hB.cell 72 (by omega)
  have fn := hB.frozen 72
  by_cases h0 : n = 0
  · have b0 : ((n : Int) == 0) = true := by subst h0; rfl
    go_enter Tryz.func113, Tryz.ntmps113
    go_wp2_with fail
    refine (first_any _).mono ?_
    rintro e w1 ⟨rfl, hb1⟩
    have hB1 := hB.below hb1 hB.lt
    have g1 := grown_below hb1 (some hb)
    have e8 : (arr 8 (wv iv)).size = 8 := arr_size _ _
    have T := hB1.there 0 8 (by omega)
    rw [← e8] at T
    go_wp2_with (refine wpList_store_mid rfl 137 (.tmp 10) (.tmp 8) rfl hb 0 (arr 8 (wv iv)) rfl rfl T (by rw [arr_size]; exact sz31) (oneCell_arr fun _ _ => rfl) ?_)
    go_end0
    refine ⟨rfl, (hB1.setCells (arr 8 (wv iv)).toList 0).congr ?_, grown_trans g1 (setCells_grown hb _ 0 w1)⟩
    intro i hi
    by_cases h8 : i < 8
    · rw [if_pos (by simp [arr_size]; exact h8), List.getD_eq_getElem?_getD, Array.getElem?_toList, Nat.sub_zero, arr_get _ _ _ h8]
      simp [hv, h8, h0]
    · rw [if_neg (by simp [arr_size]; omega)]
      simp only [hv, if_neg h8, h0]
  · have b0 : ((n : Int) == 0) = false := beq_eq_false_iff_ne.2 (by omega)
    go_enter Tryz.func113, Tryz.ntmps113
    go_wp2_with fail
    go_end0
    exact ⟨rfl, hB, grown_refl _ _⟩
theorem ty30 : Tryz.prog.underlying 113 = some (.int .u32) := by kernel_rfl
theorem sz30 : (Tryz.prog.info? 113).map (·.size) = some 1 := by kernel_rfl
theorem ty26 : Tryz.prog.underlying 37 = some (.array 32 5) := by kernel_rfl
theorem sz26 : (Tryz.prog.info? 37).map (·.size) = some 32 := by kernel_rfl
set_option maxHeartbeats 1000000 in
set_option maxRecDepth 100000 in
theorem bytes_any (s : Nat → W32) (w : World) :
    Calls Tryz.prog 115 #[.agg (arr 8 (wv s))] w fun e w' => e = .returned (.agg (arr 32 (bv (sByte s)))) ∧ Below w.heap.size w w' := by
  have S0 : ∀ A B C, Blk (((w.alloc (.cells (arr 8 (wv s)) A)).alloc B).alloc C) w.heap.size A 8 (wv s) := fun A B C => Blk.alloc (Blk.newAt _ (heap_alloc2_old w _ _) rfl) _
  go_enter Tryz.func115, Tryz.ntmps115
  go_wp2_with (refine wpList_load_blk rfl 137 (.tmp 1) rfl w.heap.size rfl 137 8 (wv s) (S0 _ _ _) _ ty31 rfl sz31 ?_)
  clear S0
  go_loopw [8] (fun i wr => ∃ (k : Nat) (g : Nat → UInt8), k ≤ 8 ∧ i = .int .i64 k ∧ Blk wr (w.heap.size + 1 + 1) 37 32 (bv g) ∧ (∀ j, j < 4 * k → g j = sByte s j) ∧ Blk wr (w.heap.size + 1) 37 32 (bv (fun _ => 0)) ∧ Below w.heap.size w wr)
    (fun i _ => 8 - (intOf i).toNat)
  case atStart =>
    have e2 : ∀ A B, ((w.alloc A).alloc B).heap.size = w.heap.size + 1 + 1 := fun A B => by show ((w.heap.push A).push B).size = _; simp
    refine ⟨0, fun _ => 0, by omega, rfl, ?_, fun j hj => absurd hj (by omega), Blk.alloc (Blk.newAt _ (heap_alloc2_new w _ _) (by rfl)) _, (((Below.refl _ _).alloc (Nat.le_refl _) _).alloc (by simp) _).alloc (by rw [e2]; omega) _⟩
    rw [← e2 _ _]
    exact Blk.newAt _ (heap_alloc_new _ _) (by rfl)
  case round =>
    obtain ⟨k, g, hk, rfl, hB, hg, hR, hbl⟩ := hrel
    have G := Lib.hid hg
    clear hg
    by_cases hlt : k < 8
    · have ix : ∀ w, (Instr.index 137 (.agg (arr 8 (wv s))) (.int .i64 (k : Int))).run Tryz.prog w = .ok (.int .u32 (U (s k))) w := fun w => run_index_arr w 137 113 8 (wv s) .i64 k ty31 sz30 ty30 hlt
      go_wp2
      clear ix
      go_loopw [12] (fun i wr => ∃ (m : Nat) (g : Nat → UInt8), m ≤ 4 ∧ i = .int .i64 m ∧ Blk wr (w.heap.size + 1 + 1) 37 32 (bv g) ∧ (∀ j, j < 4 * k + m → g j = sByte s j) ∧ Blk wr (w.heap.size + 1) 37 32 (bv (fun _ => 0)) ∧ Below w.heap.size w wr)
        (fun i _ => 4 - (intOf i).toNat)
      case atStart => exact ⟨0, g, by omega, rfl, hB, G.out, hR, hbl⟩
      case round =>
        clear hB G hR hbl g
        obtain ⟨m, g, hm, rfl, hB, hg, hR, hbl⟩ := hrel
        have G := Lib.hid hg
        clear hg
        by_cases hmt : m < 4
        · have cB := hB.cell (4 * k + m) (by omega)
          have fB := hB.frozen (4 * k + m)
          go_wp2
          go_roundw
          case rel =>
            refine ⟨m + 1, fun j => if j = 4 * k + m then sByte s (4 * k + m) else g j, by omega, by go_num, ?_, ?_, hR.setOther _ _ (by simp), hbl.setCell (by simp <;> omega) _⟩
            · refine (hB.set (4 * k + m) _).congr fun i hi => ?_
              by_cases e : i = 4 * k + m
              · subst e
                simp only [if_pos, bv]
                rw [sByte_val s k m hmt]
              · simp [e, bv]
            · intro j hj
              by_cases e : j = 4 * k + m
              · subst e; simp
              · simp only [if_neg e]; exact G.out j (by omega)
          case measure => simp [intOf]; omega
        · go_wp2
          go_roundw
          case rel => exact ⟨k + 1, g, by omega, by go_num, hB, fun j hj => G.out j (by omega), hR, hbl⟩
          case measure => simp [intOf]; omega
    · have e : Hid (k = 8) := by show k = 8; omega
      have hR2 := hR.setRow (bv g)
      have hb2 := below_setRow hbl (Nat.le_succ _) (arr 32 (bv g))
      go_wp2_with (first | (refine wpList_load_blk rfl 37 (.tmp 3) rfl (w.heap.size + 1 + 1) rfl 37 32 (bv g) hB _ ty26 rfl sz26 ?_) | (refine wpList_store_blk rfl 37 (.tmp 2) (.tmp 28) rfl (w.heap.size + 1) 32 (bv g) (bv (fun _ => 0)) rfl rfl 37 hR sz26 (fun _ _ => rfl) ?_))
      generalize wr.setRow (w.heap.size + 1) (arr 32 (bv g)) = w3 at hR2 hb2 ⊢
      refine bodyPost_ret (v := .agg (arr 32 (bv g))) (results_blk rfl _ _ (w.heap.size + 1) 37 32 _ hR2 _ rfl ty26 rfl sz26) rfl ⟨?_, hb2⟩
      have hk8 := e.out
      exact congrArg (fun a => Ending.returned (.agg a)) (arr_congr fun i hi => by unfold bv; rw [G.out i (by omega)])
end Go.Proofs.YtnmjcpoobabjgaaGreatDoor.Dg
namespace Go.Proofs.YtnmjcpoobabjgaaGreatDoor.Dg
open Go.RowKit
theorem turned_lit (st : Nat → W32) (hb off : Nat) (f : Nat → UInt8) (w : World)
    (hc : ∀ i, i < 64 → w.cell? ⟨hb, off + i, none⟩ = some (.int .u8 ((f i).toNat : Int))) (hlt : hb < w.heap.size)
    (hk : ∀ i, i < 64 → w.cell? ⟨1, i, none⟩ = some (wv kk i)) :
    Calls Tryz.prog 114 #[.agg #[.int .u32 (U (st 0)), .int .u32 (U (st 1)), .int .u32 (U (st 2)), .int .u32 (U (st 3)), .int .u32 (U (st 4)), .int .u32 (U (st 5)), .int .u32 (U (st 6)), .int .u32 (U (st 7))], .pointer (some ⟨hb, off, none⟩)] w fun e w' =>
      e = .returned (.agg #[.int .u32 (U (cmpr st f 0)), .int .u32 (U (cmpr st f 1)), .int .u32 (U (cmpr st f 2)), .int .u32 (U (cmpr st f 3)), .int .u32 (U (cmpr st f 4)), .int .u32 (U (cmpr st f 5)), .int .u32 (U (cmpr st f 6)), .int .u32 (U (cmpr st f 7))]) ∧ Below w.heap.size w w' :=
  turned_any st hb off f w hc hlt hk
def strLen : Value → Nat | .string t => t.size | _ => 0
def sAt (t : ByteArray) (j : Nat) : UInt8 := t.data.toList.getD j 0
def Taken (hb : Nat) (d : Nat → UInt8) (N : Nat) (w w' : World) : Prop := ∃ st blk, Blk w' hb 156 73 (hv st blk N) ∧ Inv d st blk N ∧ w.grownBy w' (some hb)
theorem sAt_rest (t : ByteArray) (m j : Nat) (hm : m ≤ t.size) (hj : j < t.size - m) : sAt (t.extract m t.size) j = sAt t (m + j) := by
  have hs : t.data.size = t.size := rfl
  unfold sAt
  rw [ByteArray.data_extract, List.getD_eq_getElem?_getD, List.getD_eq_getElem?_getD, Array.getElem?_toList, Array.getElem?_toList, Array.getElem?_extract_of_lt (by simp; omega), Array.getElem?_eq_getElem (show m + j < t.data.size by omega)]
theorem size_rest (t : ByteArray) (m : Nat) : (t.extract m t.size).size = t.size - m := by simp
theorem b2_spec {t : ByteArray} {d : Nat → UInt8} {N r m : Nat} {blk b2 : Nat → UInt8} (hr : r = N % 64) (hm1 : m ≤ t.size) (hd : ∀ j, j < t.size → sAt t j = d (N + j)) (hb : b2 = fun i => if r ≤ i ∧ i < r + m then sAt t (i - r) else blk i) :
    ∀ i, i < r + m → b2 i = if i < N % 64 then blk i else d (64 * (N / 64) + i) := by
  intro i hi
  rw [hb]
  simp only []
  by_cases c : i < N % 64
  · rw [if_pos c, if_neg (by omega)]
  · rw [if_neg c, if_pos (by omega), hd _ (by omega), show N + (i - r) = 64 * (N / 64) + i by omega]
theorem Blk.set8 {w : World} {hb : Nat} {st : Nat → W32} {blk : Nat → UInt8} {n : Nat} (h : Blk w hb 156 73 (hv st blk n)) (c : Nat → W32) :
    Blk ((((((((w.setCell ⟨hb, 0, none⟩ (.int .u32 (U (c 0)))).setCell ⟨hb, 1, none⟩ (.int .u32 (U (c 1)))).setCell ⟨hb, 2, none⟩ (.int .u32 (U (c 2)))).setCell ⟨hb, 3, none⟩ (.int .u32 (U (c 3)))).setCell ⟨hb, 4, none⟩ (.int .u32 (U (c 4)))).setCell ⟨hb, 5, none⟩ (.int .u32 (U (c 5)))).setCell ⟨hb, 6, none⟩ (.int .u32 (U (c 6)))).setCell ⟨hb, 7, none⟩ (.int .u32 (U (c 7)))) hb 156 73 (hv c blk n) := by
  refine ((((((((h.set 0 _).set 1 _).set 2 _).set 3 _).set 4 _).set 5 _).set 6 _).set 7 _).congr fun i hi => ?_
  match i with
  | 0 => rfl
  | 1 => rfl
  | 2 => rfl
  | 3 => rfl
  | 4 => rfl
  | 5 => rfl
  | 6 => rfl
  | 7 => rfl
  | i + 8 =>
    have h8 : ¬ (i + 8 < 8) := by omega
    simp [hv, h8]
theorem grown8 {w0 w : World} {hb : Nat} (h : w0.grownBy w (some hb)) (v0 v1 v2 v3 v4 v5 v6 v7 : Value) :
    w0.grownBy ((((((((w.setCell ⟨hb, 0, none⟩ v0).setCell ⟨hb, 1, none⟩ v1).setCell ⟨hb, 2, none⟩ v2).setCell ⟨hb, 3, none⟩ v3).setCell ⟨hb, 4, none⟩ v4).setCell ⟨hb, 5, none⟩ v5).setCell ⟨hb, 6, none⟩ v6).setCell ⟨hb, 7, none⟩ v7) (some hb) :=
  grown_trans (grown_trans (grown_trans (grown_trans (grown_trans (grown_trans (grown_trans (grown_trans h (grown_setCell _ _ _ _)) (grown_setCell _ _ _ _)) (grown_setCell _ _ _ _)) (grown_setCell _ _ _ _)) (grown_setCell _ _ _ _)) (grown_setCell _ _ _ _)) (grown_setCell _ _ _ _)) (grown_setCell _ _ _ _)
theorem ty53 : Tryz.prog.underlying 63 = some (.slice 5) := by kernel_rfl
theorem sz5 : (Tryz.prog.info? 5).map (·.size) = some 1 := by kernel_rfl
set_option maxHeartbeats 1000000 in
set_option maxRecDepth 100000 in
theorem take_any (s : ByteArray) (d : Nat → UInt8) (st : Nat → W32) (blk : Nat → UInt8) (n hb : Nat) (w : World) (hn : n + s.size ≤ 1073741824) (hB : Blk w hb 156 73 (hv st blk n)) (hI : Inv d st blk n)
    (hd : ∀ j, j < s.size → sAt s j = d (n + j)) (hh : hb ≠ 1) (hk : ∀ i, i < 64 → w.cell? ⟨1, i, none⟩ = some (wv kk i)) :
    Calls Tryz.prog 112 #[.pointer (some ⟨hb, 0, none⟩), .string s] w fun e w' => e = .returned (.tuple #[]) ∧ Taken hb d (n + s.size) w w' := by
  go_enter Tryz.func112, Tryz.ntmps112
  go_wp2_with fail
  go_loopw [1] (fun v wr => ∃ (t : ByteArray) (N : Nat), v = .string t ∧ N + t.size = n + s.size ∧ (∀ j, j < t.size → sAt t j = d (N + j)) ∧ Taken hb d N w wr) (fun v _ => strLen v)
  case atStart => exact ⟨s, n, rfl, rfl, hd, st, blk, hB, hI, grown_refl _ _⟩
  case round =>
    clear hB hI st blk hd
    obtain ⟨t, N, rfl, hN, hd, st, blk, hB, hI, hg⟩ := hrel
    have HN := Lib.hid hN
    have HD := Lib.hid hd
    have HK := Lib.hid hk
    have hN30 : N + t.size ≤ 1073741824 := by omega
    clear hN hd hk
    by_cases h0 : 0 < t.size
    · go_wp2_with fail
      refine (begin_any st blk N hb _ (by omega) hB).mono ?_
      rintro e w1 ⟨rfl, hB1, hg1⟩
      have hg2 := grown_trans hg hg1
      obtain ⟨st1, hst1⟩ : ∃ x, x = (if N = 0 then iv else st) := ⟨_, rfl⟩
      rw [← hst1] at hB1
      have Hst := Lib.hid hst1
      clear hst1
      clear hB hg hg1
      have c72 : w1.cell? ⟨hb, 72, none⟩ = some (.int .u64 (N : Int)) := hB1.cell 72 (by omega)
      obtain ⟨r, hr⟩ : ∃ r, r = N % 64 := ⟨_, rfl⟩
      have hr64 : r < 64 := by omega
      have er : (N : Int) % 64 = (r : Int) := by omega
      have et : (N : Int).tmod 64 = (r : Int) := by rw [Int.tmod_eq_emod_of_nonneg (by omega)]; exact er
      have zr : (0 : Int) ≤ (r : Int) := by omega
      have yr : (r : Int) ≤ 64 := by omega
      have yr' : (r : Int) < 64 := by omega
      have Hr := Lib.hid hr
      clear hr
      have hne : ¬ (64 = r) := by omega
      obtain ⟨m, hm⟩ : ∃ m, Nat.min t.size (64 - r) = m := ⟨_, rfl⟩
      have hm0 : 0 < m := by rw [← hm]; show 0 < min t.size (64 - r); omega
      have hm1 : m ≤ t.size := by rw [← hm]; exact Nat.min_le_left _ _
      have hm2 : m ≤ 64 - r := by rw [← hm]; exact Nat.min_le_right _ _
      have Hm := Lib.hid hm
      clear hm
      go_wp2_with fail
      go_still_tail 10, (by kernel_rfl)
      change wpList _ _ _ _ _ w1.drew
      have hB2 := hB1.drew
      have hg3 : w.grownBy w1.drew (some hb) := grown_trans hg2 (grown_drewN w1 1 _)
      clear hB1 hg2 c72
      generalize w1.drew = w2 at hB2 hg3 ⊢
      refine wpList_copy_str rfl (.tmp 18) (.tmp 19) 63 9 rfl 5 ty53 sz5 hb (8 + r) (64 - r) (64 - r) t rfl rfl m Hm.out (hB2.there _ _ (by omega)) ?_
      obtain ⟨b2, hb2⟩ : ∃ b2 : Nat → UInt8, b2 = fun i => if r ≤ i ∧ i < r + m then sAt t (i - r) else blk i := ⟨_, rfl⟩
      have hB3 : Blk (w2.setCells hb (8 + r) (strCells t m)) hb 156 73 (hv st1 b2 N) := (hB2.setCells (strCells t m) (8 + r)).congr fun i hi => by
        have hl := strCells_length t m hm1
        rw [hl]
        by_cases c : 8 + r ≤ i ∧ i < 8 + r + m
        · rw [if_pos c, strCells_get t m _ hm1 (by omega)]
          unfold hv
          rw [if_neg (by omega), if_pos (by omega)]
          unfold bv
          rw [hb2]
          simp only []
          rw [if_pos (by omega), show i - (8 + r) = i - 8 - r by omega]; rfl
        · rw [if_neg c]
          unfold hv
          by_cases c8 : i < 8
          · rw [if_pos c8, if_pos c8]
          · rw [if_neg c8, if_neg c8]
            by_cases c72 : i < 72
            · rw [if_pos c72, if_pos c72]; unfold bv; rw [hb2]; simp only []; rw [if_neg (by omega)]
            · rw [if_neg c72, if_neg c72]
      have hg4 := grown_trans hg3 (setCells_grown hb (strCells t m) (8 + r) w2)
      clear hB2 hg3
      generalize w2.setCells hb (8 + r) (strCells t m) = w3 at hB3 hg4 ⊢
      have Hb := Lib.hid hb2
      clear hb2
      have c72 : w3.cell? ⟨hb, 72, none⟩ = some (.int .u64 (N : Int)) := hB3.cell 72 (by omega)
      have f72 := hB3.frozen 72
      by_cases hf : r + m = 64
      · have e0 : (((N : Int) + (m : Int)).tmod 64 == 0) = true := by
          rw [Int.tmod_eq_emod_of_nonneg (by omega)]; exact beq_iff_eq.2 (by have := Hr.out; omega)
        have e0' : (((N : Int) + (m : Int)) % 64 == 0) = true := beq_iff_eq.2 (by have := Hr.out; omega)
        go_wp2_with fail
        have hB4 : Blk (w3.setCell ⟨hb, 72, none⟩ (.int .u64 ((N : Int) + (m : Int)))) hb 156 73 (hv st1 b2 (N + m)) := (hB3.set 72 _).congr fun i hi => by
          by_cases c : i = 72
          · subst c; simp [hv]
          · rw [if_neg c]; unfold hv
            by_cases c8 : i < 8
            · rw [if_pos c8, if_pos c8]
            · rw [if_neg c8, if_neg c8, if_pos (by omega), if_pos (by omega)]
        have hg5 := grown_trans hg4 (grown_setCell w3 hb 72 (.int .u64 ((N : Int) + (m : Int))))
        clear hB3 hg4 c72 f72
        generalize w3.setCell ⟨hb, 72, none⟩ (.int .u64 ((N : Int) + (m : Int))) = w4 at hB4 hg5 ⊢
        have hs1 : ∀ i, i < 8 → w4.cell? ⟨hb, i, none⟩ = some (.int .u32 (U (st1 i))) := fun i hi => by rw [hB4.cell i (by omega)]; unfold hv; rw [if_pos hi]; rfl
        have c0 := hs1 0 (by omega)
        have c1 := hs1 1 (by omega)
        have c2 := hs1 2 (by omega)
        have c3 := hs1 3 (by omega)
        have c4 := hs1 4 (by omega)
        have c5 := hs1 5 (by omega)
        have c6 := hs1 6 (by omega)
        have c7 := hs1 7 (by omega)
        clear hs1
        have hB5 := hB4.drew
        have hg6 : w.grownBy w4.drew (some hb) := grown_trans hg5 (grown_drewN w4 1 _)
        have hk5 : Hid (∀ i, i < 64 → w4.drew.cell? ⟨1, i, none⟩ = some (wv kk i)) := fun i hi => cell_grown hg6 (HK.out i hi) (by simpa using Ne.symm hh)
        have hc5 : Hid (∀ i, i < 64 → w4.drew.cell? ⟨hb, 8 + i, none⟩ = some (.int .u8 ((b2 i).toNat : Int))) := fun i hi => by
          rw [hB5.cell (8 + i) (by omega)]; unfold hv; rw [if_neg (by omega), if_pos (by omega), show 8 + i - 8 = i by omega]; rfl
        clear hB4 hg5
        go_region_with ((go_at_call 114; refine (turned_lit st1 hb 8 b2 w4.drew hc5.out hB5.lt hk5.out).mono ?_; rintro e w6 ⟨rfl, hb6⟩; have hB6 := hB5.below hb6 hB5.lt; have hg7 := grown_trans hg6 (grown_below hb6 (some hb)); clear hb6 c0 c1 c2 c3 c4 c5 c6 c7; have f0 := hB6.frozen 0; have f1 := hB6.frozen 1; have f2 := hB6.frozen 2; have f3 := hB6.frozen 3; have f4 := hB6.frozen 4; have f5 := hB6.frozen 5; have f6 := hB6.frozen 6; have f7 := hB6.frozen 7; have c0 := hB6.cell 0 (by omega); have c1 := hB6.cell 1 (by omega); have c2 := hB6.cell 2 (by omega); have c3 := hB6.cell 3 (by omega); have c4 := hB6.cell 4 (by omega); have c5 := hB6.cell 5 (by omega); have c6 := hB6.cell 6 (by omega); have c7 := hB6.cell 7 (by omega)))
        go_wp2
        go_roundw
        case rel =>
          have hd := HD.out
          have hN := HN.out
          refine ⟨t.extract m t.size, N + m, rfl, by rw [size_rest]; omega, fun j hj => ?_, cmpr st1 b2, b2, hB6.set8 (cmpr st1 b2), ?_, grown8 hg7 _ _ _ _ _ _ _ _⟩
          · rw [size_rest] at hj
            rw [sAt_rest t m j hm1 hj, hd _ (by omega), Nat.add_assoc]
          · have hst := Hst.out
            rw [hst]
            have hrr := Hr.out
            exact inv_full hI m b2 (by omega) (fun i hi => b2_spec hrr hm1 hd Hb.out i (by omega))
        case measure => simp [strLen]; omega
      · have hmt : m = t.size := by have := Hm.out; have : min t.size (64 - r) = m := this; omega
        have Hmt := Lib.hid hmt
        clear hmt
        have e0 : (((N : Int) + (m : Int)).tmod 64 == 0) = false := by
          rw [Int.tmod_eq_emod_of_nonneg (by omega)]; exact beq_eq_false_iff_ne.2 (by have := Hr.out; omega)
        have e0' : (((N : Int) + (m : Int)) % 64 == 0) = false := beq_eq_false_iff_ne.2 (by have := Hr.out; omega)
        have hB4 : Blk (w3.setCell ⟨hb, 72, none⟩ (.int .u64 ((N : Int) + (m : Int)))) hb 156 73 (hv st1 b2 (N + m)) := (hB3.set 72 _).congr fun i hi => by
          by_cases c : i = 72
          · subst c; simp [hv]
          · rw [if_neg c]; unfold hv
            by_cases c8 : i < 8
            · rw [if_pos c8, if_pos c8]
            · rw [if_neg c8, if_neg c8, if_pos (by omega), if_pos (by omega)]
        have hg5 := grown_trans hg4 (grown_setCell w3 hb 72 (.int .u64 ((N : Int) + (m : Int))))
        go_wp2_with fail
        go_roundw
        case rel =>
          have hd := HD.out
          have hN := HN.out
          have hmt := Hmt.out
          refine ⟨t.extract m t.size, N + m, rfl, by rw [size_rest]; omega, fun j hj => ?_, st1, b2, hB4, ?_, hg5⟩
          · rw [size_rest] at hj; omega
          · have hst := Hst.out
            rw [hst]
            have hrr := Hr.out
            exact inv_part hI m b2 (by omega) (fun i hi => b2_spec hrr hm1 hd Hb.out i (by omega))
        case measure => simp [strLen]; omega
    · have hz : t.size = 0 := by omega
      have Hz := Lib.hid hz
      clear hz
      go_wp2
      go_end0
      refine ⟨rfl, ?_⟩
      have e : n + s.size = N := by have := HN.out; have := Hz.out; omega
      rw [e]
      exact ⟨st, blk, hB, hI, hg⟩
end Go.Proofs.YtnmjcpoobabjgaaGreatDoor.Dg
