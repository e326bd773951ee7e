import Derived.Test.YtlbclfponongbaaGreatDoorDPam
import Derived.Deep.RegionWith
namespace Go.Proofs.YtlbclfponongbaaGreatDoor.Dg
open Go.RowKit
theorem sz35 : (Tryz.prog.info? 96).map (·.size) = some 73 := by kernel_rfl
set_option maxHeartbeats 1000000 in
set_option maxRecDepth 100000 in
theorem first_any (w : World) :
    Calls Tryz.prog 86 #[] w fun e w' => e = .returned (.agg (arr 8 (wv iv))) ∧ Below w.heap.size w w' := by
  go_enter Tryz.func86, Tryz.ntmps86
  go_wp2
  refine bodyPost_ret (v := .agg (arr 8 (wv iv))) (results_blk rfl _ _ w.heap.size 92 8 (wv iv) (Blk.newAt _ (heap_alloc_new _ _) rfl) _ rfl ty31 rfl sz31) rfl ⟨rfl, (Below.refl _ _).alloc (Nat.le_refl _) _⟩
set_option maxHeartbeats 1000000 in
set_option maxRecDepth 100000 in
theorem begin_any (st : Nat → W32) (blk : Nat → UInt8) (n hb : Nat) (w : World) (hn : n < 1099511627776) (hB : Blk w hb 96 73 (hv st blk n)) :
    Calls Tryz.prog 64 #[.pointer (some ⟨hb, 0, none⟩)] w fun e w' => e = .returned (.tuple #[]) ∧ Blk w' hb 96 73 (hv (if n = 0 then iv else st) blk n) ∧ w.grownBy w' (some hb) := by
  have cn : w.cell? ⟨hb, 72, none⟩ = some (.int .u64 (n : Int)) := hB.cell 72 (by omega)
  have fn := hB.frozen 72
  by_cases h0 : n = 0
  · have b0 : ((n : Int) == 0) = true := by subst h0; rfl
    go_enter Tryz.func64, Tryz.ntmps64
    go_wp2_with fail
    refine (first_any _).mono ?_
    rintro e w1 ⟨rfl, hb1⟩
    have hB1 := hB.below hb1 hB.lt
    have g1 := grown_below hb1 (some hb)
    have e8 : (arr 8 (wv iv)).size = 8 := arr_size _ _
    have T := hB1.there 0 8 (by omega)
    rw [← e8] at T
    go_wp2_with (refine wpList_store_mid rfl 92 (.tmp 10) (.tmp 8) rfl hb 0 (arr 8 (wv iv)) rfl rfl T (by rw [arr_size]; exact sz31) (oneCell_arr fun _ _ => rfl) ?_)
    go_end0
    refine ⟨rfl, (hB1.setCells (arr 8 (wv iv)).toList 0).congr ?_, grown_trans g1 (setCells_grown hb _ 0 w1)⟩
    intro i hi
    by_cases h8 : i < 8
    · rw [if_pos (by simp [arr_size]; exact h8), List.getD_eq_getElem?_getD, Array.getElem?_toList, Nat.sub_zero, arr_get _ _ _ h8]
      simp [hv, h8, h0]
    · rw [if_neg (by simp [arr_size]; omega)]
      simp only [hv, if_neg h8, h0]
  · have b0 : ((n : Int) == 0) = false := beq_eq_false_iff_ne.2 (by omega)
    go_enter Tryz.func64, Tryz.ntmps64
    go_wp2_with fail
    go_end0
    exact ⟨rfl, hB, grown_refl _ _⟩
theorem ty30 : Tryz.prog.underlying 91 = some (.int .u32) := by kernel_rfl
theorem sz30 : (Tryz.prog.info? 91).map (·.size) = some 1 := by kernel_rfl
theorem ty26 : Tryz.prog.underlying 29 = some (.array 32 5) := by kernel_rfl
theorem sz26 : (Tryz.prog.info? 29).map (·.size) = some 32 := by kernel_rfl
set_option maxHeartbeats 1000000 in
set_option maxRecDepth 100000 in
theorem bytes_any (s : Nat → W32) (w : World) :
    Calls Tryz.prog 66 #[.agg (arr 8 (wv s))] w fun e w' => e = .returned (.agg (arr 32 (bv (sByte s)))) ∧ Below w.heap.size w w' := by
  have S0 : ∀ A B C, Blk (((w.alloc (.cells (arr 8 (wv s)) A)).alloc B).alloc C) w.heap.size A 8 (wv s) := fun A B C => Blk.alloc (Blk.newAt _ (heap_alloc2_old w _ _) rfl) _
  go_enter Tryz.func66, Tryz.ntmps66
  go_wp2_with (refine wpList_load_blk rfl 92 (.tmp 1) rfl w.heap.size rfl 92 8 (wv s) (S0 _ _ _) _ ty31 rfl sz31 ?_)
  clear S0
  go_loopw [8] (fun i wr => ∃ (k : Nat) (g : Nat → UInt8), k ≤ 8 ∧ i = .int .i64 k ∧ Blk wr (w.heap.size + 1 + 1) 29 32 (bv g) ∧ (∀ j, j < 4 * k → g j = sByte s j) ∧ Blk wr (w.heap.size + 1) 29 32 (bv (fun _ => 0)) ∧ Below w.heap.size w wr)
    (fun i _ => 8 - (intOf i).toNat)
  case atStart =>
    have e2 : ∀ A B, ((w.alloc A).alloc B).heap.size = w.heap.size + 1 + 1 := fun A B => by show ((w.heap.push A).push B).size = _; simp
    refine ⟨0, fun _ => 0, by omega, rfl, ?_, fun j hj => absurd hj (by omega), Blk.alloc (Blk.newAt _ (heap_alloc2_new w _ _) (by rfl)) _, (((Below.refl _ _).alloc (Nat.le_refl _) _).alloc (by simp) _).alloc (by rw [e2]; omega) _⟩
    rw [← e2 _ _]
    exact Blk.newAt _ (heap_alloc_new _ _) (by rfl)
  case round =>
    obtain ⟨k, g, hk, rfl, hB, hg, hR, hbl⟩ := hrel
    have G := Lib.hid hg
    clear hg
    by_cases hlt : k < 8
    · have ix : ∀ w, (Instr.index 92 (.agg (arr 8 (wv s))) (.int .i64 (k : Int))).run Tryz.prog w = .ok (.int .u32 (U (s k))) w := fun w => run_index_arr w 92 91 8 (wv s) .i64 k ty31 sz30 ty30 hlt
      go_wp2
      clear ix
      go_loopw [12] (fun i wr => ∃ (m : Nat) (g : Nat → UInt8), m ≤ 4 ∧ i = .int .i64 m ∧ Blk wr (w.heap.size + 1 + 1) 29 32 (bv g) ∧ (∀ j, j < 4 * k + m → g j = sByte s j) ∧ Blk wr (w.heap.size + 1) 29 32 (bv (fun _ => 0)) ∧ Below w.heap.size w wr)
        (fun i _ => 4 - (intOf i).toNat)
      case atStart => exact ⟨0, g, by omega, rfl, hB, G.out, hR, hbl⟩
      case round =>
        clear hB G hR hbl g
        obtain ⟨m, g, hm, rfl, hB, hg, hR, hbl⟩ := hrel
        have G := Lib.hid hg
        clear hg
        by_cases hmt : m < 4
        · have cB := hB.cell (4 * k + m) (by omega)
          have fB := hB.frozen (4 * k + m)
          go_wp2
          go_roundw
          case rel =>
            refine ⟨m + 1, fun j => if j = 4 * k + m then sByte s (4 * k + m) else g j, by omega, by go_num, ?_, ?_, hR.setOther _ _ (by simp), hbl.setCell (by simp <;> omega) _⟩
            · refine (hB.set (4 * k + m) _).congr fun i hi => ?_
              by_cases e : i = 4 * k + m
              · subst e
                simp only [if_pos, bv]
                rw [sByte_val s k m hmt]
              · simp [e, bv]
            · intro j hj
              by_cases e : j = 4 * k + m
              · subst e; simp
              · simp only [if_neg e]; exact G.out j (by omega)
          case measure => simp [intOf]; omega
        · go_wp2
          go_roundw
          case rel => exact ⟨k + 1, g, by omega, by go_num, hB, fun j hj => G.out j (by omega), hR, hbl⟩
          case measure => simp [intOf]; omega
    · have e : Hid (k = 8) := by show k = 8; omega
      have hR2 := hR.setRow (bv g)
      have hb2 := below_setRow hbl (Nat.le_succ _) (arr 32 (bv g))
      go_wp2_with (first | (refine wpList_load_blk rfl 29 (.tmp 3) rfl (w.heap.size + 1 + 1) rfl 29 32 (bv g) hB _ ty26 rfl sz26 ?_) | (refine wpList_store_blk rfl 29 (.tmp 2) (.tmp 28) rfl (w.heap.size + 1) 32 (bv g) (bv (fun _ => 0)) rfl rfl 29 hR sz26 (fun _ _ => rfl) ?_))
      generalize wr.setRow (w.heap.size + 1) (arr 32 (bv g)) = w3 at hR2 hb2 ⊢
      refine bodyPost_ret (v := .agg (arr 32 (bv g))) (results_blk rfl _ _ (w.heap.size + 1) 29 32 _ hR2 _ rfl ty26 rfl sz26) rfl ⟨?_, hb2⟩
      have hk8 := e.out
      exact congrArg (fun a => Ending.returned (.agg a)) (arr_congr fun i hi => by unfold bv; rw [G.out i (by omega)])
end Go.Proofs.YtlbclfponongbaaGreatDoor.Dg
namespace Go.Proofs.YtlbclfponongbaaGreatDoor.Dg
open Go.RowKit
theorem turned_lit (st : Nat → W32) (hb off : Nat) (f : Nat → UInt8) (w : World)
    (hc : ∀ i, i < 64 → w.cell? ⟨hb, off + i, none⟩ = some (.int .u8 ((f i).toNat : Int))) (hlt : hb < w.heap.size)
    (hk : ∀ i, i < 64 → w.cell? ⟨1, i, none⟩ = some (wv kk i)) :
    Calls Tryz.prog 65 #[.agg #[.int .u32 (U (st 0)), .int .u32 (U (st 1)), .int .u32 (U (st 2)), .int .u32 (U (st 3)), .int .u32 (U (st 4)), .int .u32 (U (st 5)), .int .u32 (U (st 6)), .int .u32 (U (st 7))], .pointer (some ⟨hb, off, none⟩)] w fun e w' =>
      e = .returned (.agg #[.int .u32 (U (cmpr st f 0)), .int .u32 (U (cmpr st f 1)), .int .u32 (U (cmpr st f 2)), .int .u32 (U (cmpr st f 3)), .int .u32 (U (cmpr st f 4)), .int .u32 (U (cmpr st f 5)), .int .u32 (U (cmpr st f 6)), .int .u32 (U (cmpr st f 7))]) ∧ Below w.heap.size w w' :=
  turned_any st hb off f w hc hlt hk
def strLen : Value → Nat | .string t => t.size | _ => 0
def sAt (t : ByteArray) (j : Nat) : UInt8 := t.data.toList.getD j 0
def Taken (hb : Nat) (d : Nat → UInt8) (N : Nat) (w w' : World) : Prop := ∃ st blk, Blk w' hb 96 73 (hv st blk N) ∧ Inv d st blk N ∧ w.grownBy w' (some hb)
theorem sAt_rest (t : ByteArray) (m j : Nat) (hm : m ≤ t.size) (hj : j < t.size - m) : sAt (t.extract m t.size) j = sAt t (m + j) := by
  have hs : t.data.size = t.size := rfl
  unfold sAt
  rw [ByteArray.data_extract, List.getD_eq_getElem?_getD, List.getD_eq_getElem?_getD, Array.getElem?_toList, Array.getElem?_toList, Array.getElem?_extract_of_lt (by simp; omega), Array.getElem?_eq_getElem (show m + j < t.data.size by omega)]
theorem size_rest (t : ByteArray) (m : Nat) : (t.extract m t.size).size = t.size - m := by simp
theorem b2_spec {t : ByteArray} {d : Nat → UInt8} {N r m : Nat} {blk b2 : Nat → UInt8} (hr : r = N % 64) (hm1 : m ≤ t.size) (hd : ∀ j, j < t.size → sAt t j = d (N + j)) (hb : b2 = fun i => if r ≤ i ∧ i < r + m then sAt t (i - r) else blk i) :
    ∀ i, i < r + m → b2 i = if i < N % 64 then blk i else d (64 * (N / 64) + i) := by
  intro i hi
  rw [hb]
  simp only []
  by_cases c : i < N % 64
  · rw [if_pos c, if_neg (by omega)]
  · rw [if_neg c, if_pos (by omega), hd _ (by omega), show N + (i - r) = 64 * (N / 64) + i by omega]
theorem Blk.set8 {w : World} {hb : Nat} {st : Nat → W32} {blk : Nat → UInt8} {n : Nat} (h : Blk w hb 96 73 (hv st blk n)) (c : Nat → W32) :
    Blk ((((((((w.setCell ⟨hb, 0, none⟩ (.int .u32 (U (c 0)))).setCell ⟨hb, 1, none⟩ (.int .u32 (U (c 1)))).setCell ⟨hb, 2, none⟩ (.int .u32 (U (c 2)))).setCell ⟨hb, 3, none⟩ (.int .u32 (U (c 3)))).setCell ⟨hb, 4, none⟩ (.int .u32 (U (c 4)))).setCell ⟨hb, 5, none⟩ (.int .u32 (U (c 5)))).setCell ⟨hb, 6, none⟩ (.int .u32 (U (c 6)))).setCell ⟨hb, 7, none⟩ (.int .u32 (U (c 7)))) hb 96 73 (hv c blk n) := by
  refine ((((((((h.set 0 _).set 1 _).set 2 _).set 3 _).set 4 _).set 5 _).set 6 _).set 7 _).congr fun i hi => ?_
  match i with
  | 0 => rfl
  | 1 => rfl
  | 2 => rfl
  | 3 => rfl
  | 4 => rfl
  | 5 => rfl
  | 6 => rfl
  | 7 => rfl
  | i + 8 =>
    have h8 : ¬ (i + 8 < 8) := by omega
    simp [hv, h8]
theorem grown8 {w0 w : World} {hb : Nat} (h : w0.grownBy w (some hb)) (v0 v1 v2 v3 v4 v5 v6 v7 : Value) :
    w0.grownBy ((((((((w.setCell ⟨hb, 0, none⟩ v0).setCell ⟨hb, 1, none⟩ v1).setCell ⟨hb, 2, none⟩ v2).setCell ⟨hb, 3, none⟩ v3).setCell ⟨hb, 4, none⟩ v4).setCell ⟨hb, 5, none⟩ v5).setCell ⟨hb, 6, none⟩ v6).setCell ⟨hb, 7, none⟩ v7) (some hb) :=
  grown_trans (grown_trans (grown_trans (grown_trans (grown_trans (grown_trans (grown_trans (grown_trans h (grown_setCell _ _ _ _)) (grown_setCell _ _ _ _)) (grown_setCell _ _ _ _)) (grown_setCell _ _ _ _)) (grown_setCell _ _ _ _)) (grown_setCell _ _ _ _)) (grown_setCell _ _ _ _)) (grown_setCell _ _ _ _)
theorem ty53 : Tryz.prog.underlying 59 = some (.slice 5) := by kernel_rfl
theorem sz5 : (Tryz.prog.info? 5).map (·.size) = some 1 := by kernel_rfl
set_option maxHeartbeats 1000000 in
set_option maxRecDepth 100000 in
theorem take_any (s : ByteArray) (d : Nat → UInt8) (st : Nat → W32) (blk : Nat → UInt8) (n hb : Nat) (w : World) (hn : n + s.size ≤ 1073741824) (hB : Blk w hb 96 73 (hv st blk n)) (hI : Inv d st blk n)
    (hd : ∀ j, j < s.size → sAt s j = d (n + j)) (hh : hb ≠ 1) (hk : ∀ i, i < 64 → w.cell? ⟨1, i, none⟩ = some (wv kk i)) :
    Calls Tryz.prog 63 #[.pointer (some ⟨hb, 0, none⟩), .string s] w fun e w' => e = .returned (.tuple #[]) ∧ Taken hb d (n + s.size) w w' := by
  go_enter Tryz.func63, Tryz.ntmps63
  go_wp2_with fail
  go_loopw [1] (fun v wr => ∃ (t : ByteArray) (N : Nat), v = .string t ∧ N + t.size = n + s.size ∧ (∀ j, j < t.size → sAt t j = d (N + j)) ∧ Taken hb d N w wr) (fun v _ => strLen v)
  case atStart => exact ⟨s, n, rfl, rfl, hd, st, blk, hB, hI, grown_refl _ _⟩
  case round =>
    clear hB hI st blk hd
    obtain ⟨t, N, rfl, hN, hd, st, blk, hB, hI, hg⟩ := hrel
    have HN := Lib.hid hN
    have HD := Lib.hid hd
    have HK := Lib.hid hk
    have hN30 : N + t.size ≤ 1073741824 := by omega
    clear hN hd hk
    by_cases h0 : 0 < t.size
    · go_wp2_with fail
      refine (begin_any st blk N hb _ (by omega) hB).mono ?_
      rintro e w1 ⟨rfl, hB1, hg1⟩
      have hg2 := grown_trans hg hg1
      obtain ⟨st1, hst1⟩ : ∃ x, x = (if N = 0 then iv else st) := ⟨_, rfl⟩
      rw [← hst1] at hB1
      have Hst := Lib.hid hst1
      clear hst1
      clear hB hg hg1
      have c72 : w1.cell? ⟨hb, 72, none⟩ = some (.int .u64 (N : Int)) := hB1.cell 72 (by omega)
      obtain ⟨r, hr⟩ : ∃ r, r = N % 64 := ⟨_, rfl⟩
      have hr64 : r < 64 := by omega
      have er : (N : Int) % 64 = (r : Int) := by omega
      have et : (N : Int).tmod 64 = (r : Int) := by rw [Int.tmod_eq_emod_of_nonneg (by omega)]; exact er
      have zr : (0 : Int) ≤ (r : Int) := by omega
      have yr : (r : Int) ≤ 64 := by omega
      have yr' : (r : Int) < 64 := by omega
      have Hr := Lib.hid hr
      clear hr
      have hne : ¬ (64 = r) := by omega
      obtain ⟨m, hm⟩ : ∃ m, Nat.min t.size (64 - r) = m := ⟨_, rfl⟩
      have hm0 : 0 < m := by rw [← hm]; show 0 < min t.size (64 - r); omega
      have hm1 : m ≤ t.size := by rw [← hm]; exact Nat.min_le_left _ _
      have hm2 : m ≤ 64 - r := by rw [← hm]; exact Nat.min_le_right _ _
      have Hm := Lib.hid hm
      clear hm
      go_wp2_with fail
      go_still_tail 10, (by kernel_rfl)
      change wpList _ _ _ _ _ w1.drew
      have hB2 := hB1.drew
      have hg3 : w.grownBy w1.drew (some hb) := grown_trans hg2 (grown_drewN w1 1 _)
      clear hB1 hg2 c72
      generalize w1.drew = w2 at hB2 hg3 ⊢
      refine wpList_copy_str rfl (.tmp 18) (.tmp 19) 59 9 rfl 5 ty53 sz5 hb (8 + r) (64 - r) (64 - r) t rfl rfl m Hm.out (hB2.there _ _ (by omega)) ?_
      obtain ⟨b2, hb2⟩ : ∃ b2 : Nat → UInt8, b2 = fun i => if r ≤ i ∧ i < r + m then sAt t (i - r) else blk i := ⟨_, rfl⟩
      have hB3 : Blk (w2.setCells hb (8 + r) (strCells t m)) hb 96 73 (hv st1 b2 N) := (hB2.setCells (strCells t m) (8 + r)).congr fun i hi => by
        have hl := strCells_length t m hm1
        rw [hl]
        by_cases c : 8 + r ≤ i ∧ i < 8 + r + m
        · rw [if_pos c, strCells_get t m _ hm1 (by omega)]
          unfold hv
          rw [if_neg (by omega), if_pos (by omega)]
          unfold bv
          rw [hb2]
          simp only []
          rw [if_pos (by omega), show i - (8 + r) = i - 8 - r by omega]; rfl
        · rw [if_neg c]
          unfold hv
          by_cases c8 : i < 8
          · rw [if_pos c8, if_pos c8]
          · rw [if_neg c8, if_neg c8]
            by_cases c72 : i < 72
            · rw [if_pos c72, if_pos c72]; unfold bv; rw [hb2]; simp only []; rw [if_neg (by omega)]
            · rw [if_neg c72, if_neg c72]
      have hg4 := grown_trans hg3 (setCells_grown hb (strCells t m) (8 + r) w2)
      clear hB2 hg3
      generalize w2.setCells hb (8 + r) (strCells t m) = w3 at hB3 hg4 ⊢
      have Hb := Lib.hid hb2
      clear hb2
      have c72 : w3.cell? ⟨hb, 72, none⟩ = some (.int .u64 (N : Int)) := hB3.cell 72 (by omega)
      have f72 := hB3.frozen 72
      by_cases hf : r + m = 64
      · have e0 : (((N : Int) + (m : Int)).tmod 64 == 0) = true := by
          rw [Int.tmod_eq_emod_of_nonneg (by omega)]; exact beq_iff_eq.2 (by have := Hr.out; omega)
        have e0' : (((N : Int) + (m : Int)) % 64 == 0) = true := beq_iff_eq.2 (by have := Hr.out; omega)
        go_wp2_with fail
        have hB4 : Blk (w3.setCell ⟨hb, 72, none⟩ (.int .u64 ((N : Int) + (m : Int)))) hb 96 73 (hv st1 b2 (N + m)) := (hB3.set 72 _).congr fun i hi => by
          by_cases c : i = 72
          · subst c; simp [hv]
          · rw [if_neg c]; unfold hv
            by_cases c8 : i < 8
            · rw [if_pos c8, if_pos c8]
            · rw [if_neg c8, if_neg c8, if_pos (by omega), if_pos (by omega)]
        have hg5 := grown_trans hg4 (grown_setCell w3 hb 72 (.int .u64 ((N : Int) + (m : Int))))
        clear hB3 hg4 c72 f72
        generalize w3.setCell ⟨hb, 72, none⟩ (.int .u64 ((N : Int) + (m : Int))) = w4 at hB4 hg5 ⊢
        have hs1 : ∀ i, i < 8 → w4.cell? ⟨hb, i, none⟩ = some (.int .u32 (U (st1 i))) := fun i hi => by rw [hB4.cell i (by omega)]; unfold hv; rw [if_pos hi]; rfl
        have c0 := hs1 0 (by omega)
        have c1 := hs1 1 (by omega)
        have c2 := hs1 2 (by omega)
        have c3 := hs1 3 (by omega)
        have c4 := hs1 4 (by omega)
        have c5 := hs1 5 (by omega)
        have c6 := hs1 6 (by omega)
        have c7 := hs1 7 (by omega)
        clear hs1
        have hB5 := hB4.drew
        have hg6 : w.grownBy w4.drew (some hb) := grown_trans hg5 (grown_drewN w4 1 _)
        have hk5 : Hid (∀ i, i < 64 → w4.drew.cell? ⟨1, i, none⟩ = some (wv kk i)) := fun i hi => cell_grown hg6 (HK.out i hi) (by simpa using Ne.symm hh)
        have hc5 : Hid (∀ i, i < 64 → w4.drew.cell? ⟨hb, 8 + i, none⟩ = some (.int .u8 ((b2 i).toNat : Int))) := fun i hi => by
          rw [hB5.cell (8 + i) (by omega)]; unfold hv; rw [if_neg (by omega), if_pos (by omega), show 8 + i - 8 = i by omega]; rfl
        clear hB4 hg5
        go_region_with ((go_at_call 65; refine (turned_lit st1 hb 8 b2 w4.drew hc5.out hB5.lt hk5.out).mono ?_; rintro e w6 ⟨rfl, hb6⟩; have hB6 := hB5.below hb6 hB5.lt; have hg7 := grown_trans hg6 (grown_below hb6 (some hb)); clear hb6 c0 c1 c2 c3 c4 c5 c6 c7; have f0 := hB6.frozen 0; have f1 := hB6.frozen 1; have f2 := hB6.frozen 2; have f3 := hB6.frozen 3; have f4 := hB6.frozen 4; have f5 := hB6.frozen 5; have f6 := hB6.frozen 6; have f7 := hB6.frozen 7; have c0 := hB6.cell 0 (by omega); have c1 := hB6.cell 1 (by omega); have c2 := hB6.cell 2 (by omega); have c3 := hB6.cell 3 (by omega); have c4 := hB6.cell 4 (by omega); have c5 := hB6.cell 5 (by omega); have c6 := hB6.cell 6 (by omega); have c7 := hB6.cell 7 (by omega)))
        go_wp2
        go_roundw
        case rel =>
          have hd := HD.out
          have hN := HN.out
          refine ⟨t.extract m t.size, N + m, rfl, by rw [size_rest]; omega, fun j hj => ?_, cmpr st1 b2, b2, hB6.set8 (cmpr st1 b2), ?_, grown8 hg7 _ _ _ _ _ _ _ _⟩
          · rw [size_rest] at hj
            rw [sAt_rest t m j hm1 hj, hd _ (by omega), Nat.add_assoc]
          · have hst := Hst.out
            rw [hst]
            have hrr := Hr.out
            exact inv_full hI m b2 (by omega) (fun i hi => b2_spec hrr hm1 hd Hb.out i (by omega))
        case measure => simp [strLen]; omega
      · have hmt : m = t.size := by have := Hm.out; have : min t.size (64 - r) = m := this; omega
        have Hmt := Lib.hid hmt
        clear hmt
        have e0 : (((N : Int) + (m : Int)).tmod 64 == 0) = false := by
          rw [Int.tmod_eq_emod_of_nonneg (by omega)]; exact beq_eq_false_iff_ne.2 (by have := Hr.out; omega)
        have e0' : (((N : Int) + (m : Int)) % 64 == 0) = false := beq_eq_false_iff_ne.2 (by have := Hr.out; omega)
        have hB4 : Blk (w3.setCell ⟨hb, 72, none⟩ (.int .u64 ((N : Int) + (m : Int)))) hb 96 73 (hv st1 b2 (N + m)) := (hB3.set 72 _).congr fun i hi => by
          by_cases c : i = 72
          · subst c; simp [hv]
          · rw [if_neg c]; unfold hv
            by_cases c8 : i < 8
            · rw [if_pos c8, if_pos c8]
            · rw [if_neg c8, if_neg c8, if_pos (by omega), if_pos (by omega)]
        have hg5 := grown_trans hg4 (grown_setCell w3 hb 72 (.int .u64 ((N : Int) + (m : Int))))
        go_wp2_with fail
        go_roundw
        case rel =>
          have hd := HD.out
          have hN := HN.out
          have hmt := Hmt.out
          refine ⟨t.extract m t.size, N + m, rfl, by rw [size_rest]; omega, fun j hj => ?_, st1, b2, hB4, ?_, hg5⟩
          · rw [size_rest] at hj; omega
          · have hst := Hst.out
            rw [hst]
            have hrr := Hr.out
            exact inv_part hI m b2 (by omega) (fun i hi => b2_spec hrr hm1 hd Hb.out i (by omega))
        case measure => simp [strLen]; omega
    · have hz : t.size = 0 := by omega
      have Hz := Lib.hid hz
      clear hz
      go_wp2
      go_end0
      refine ⟨rfl, ?_⟩
      have e : n + s.size = N := by have := HN.out; have := Hz.out; omega
      rw [e]
      exact ⟨st, blk, hB, hI, hg⟩
end Go.Proofs.YtlbclfponongbaaGreatDoor.Dg
