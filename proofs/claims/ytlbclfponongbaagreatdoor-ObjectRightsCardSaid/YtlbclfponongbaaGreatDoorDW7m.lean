import Derived.Test.YtlbclfponongbaaGreatDoorDW6
import Derived.Laws.Concat
namespace Go.Proofs.YtlbclfponongbaaGreatDoor.Dg
open Go.RowKit
/- how many bytes the first k parts have -/
def offs (ss : Nat → ByteArray) : Nat → Nat
  | 0 => 0
  | k + 1 => offs ss k + (ss k).size
theorem offs_mono (ss : Nat → ByteArray) {a b : Nat} (h : a ≤ b) : offs ss a ≤ offs ss b := by
  induction h with
  | refl => exact Nat.le_refl _
  | step _ ih => exact Nat.le_trans ih (Nat.le_add_right _ _)
/- the parts' bytes stand in d from n0 on -/
def Parts (ss : Nat → ByteArray) (len n0 : Nat) (d : Nat → UInt8) : Prop := ∀ i, i < len → ∀ j, j < (ss i).size → sAt (ss i) j = d (n0 + offs ss i + j)
set_option maxHeartbeats 1000000 in
set_option maxRecDepth 100000 in
theorem write_none (ad : Option Addr) (cap : Nat) (hb : Nat) (w : World) :
    Calls Tryz.prog 46 #[.pointer (some ⟨hb, 0, none⟩), .slice ad 0 cap] w fun e w' => e = .returned (.tuple #[]) ∧ w = w' := by
  go_enter Tryz.func46, Tryz.ntmps46
  go_wp2_with fail
  refine wp_loop_rounds 1 ?_
  rw [rounds_succ]
  go_wp2_with fail
  go_end0
  exact ⟨rfl, rfl⟩
set_option maxHeartbeats 1000000 in
set_option maxRecDepth 100000 in
theorem write_nil (v : Value) (w : World) :
    Calls Tryz.prog 46 #[.pointer none, v] w fun e w' => e = .returned (.tuple #[]) ∧ w = w' := by
  go_enter Tryz.func46, Tryz.ntmps46
  go_wp2_with fail
  exact bodyPost_ret (v := .tuple #[]) (results_none rfl _ _ _) rfl ⟨rfl, rfl⟩
set_option maxHeartbeats 1000000 in
set_option maxRecDepth 100000 in
theorem write_some (ss : Nat → ByteArray) (b o len cap : Nat) (d : Nat → UInt8) (n0 hb : Nat) (w : World) (hlen : 0 < len) (hl : len ≤ 1048576) (hn : n0 + offs ss len ≤ 1073741824) (hT : Taken hb d n0 w w)
    (hd : Parts ss len n0 d) (hh : hb ≠ 1) (hbb : b ≠ hb) (hk : ∀ i, i < 64 → w.cell? ⟨1, i, none⟩ = some (wv kk i)) (hc : ∀ i, i < len → w.cell? ⟨b, o + i, none⟩ = some (.string (ss i))) :
    Calls Tryz.prog 46 #[.pointer (some ⟨hb, 0, none⟩), .slice (some ⟨b, o, none⟩) len cap] w fun e w' => e = .returned (.tuple #[]) ∧ Taken hb d (n0 + offs ss len) w w' := by
  have HK := Lib.hid hk
  have HC := Lib.hid hc
  have HD := Lib.hid hd
  clear hk hc hd
  go_enter Tryz.func46, Tryz.ntmps46
  go_wp2_with fail
  go_loopw [10] (fun i wr => ∃ k : Nat, k ≤ len ∧ i = .int .i64 k ∧ Taken hb d (n0 + offs ss k) w wr) (fun i _ => len - (intOf i).toNat)
  case atStart => exact ⟨0, by omega, rfl, hT⟩
  case round =>
    obtain ⟨k, hk, rfl, st, blk, hB, hI, hg⟩ := hrel
    by_cases hlt : k < len
    · have ck : wr.cell? ⟨b, o + k, none⟩ = some (.string (ss k)) := cell_grown hg (HC.out k hlt) hbb
      have hz : n0 + offs ss k + (ss k).size ≤ 1073741824 := by
        have := offs_mono ss (show k + 1 ≤ len by omega)
        have e : offs ss (k + 1) = offs ss k + (ss k).size := rfl
        omega
      have hkr : Hid (∀ i, i < 64 → wr.cell? ⟨1, i, none⟩ = some (wv kk i)) := fun i hi => cell_grown hg (HK.out i hi) (by simpa using Ne.symm hh)
      go_wp2_with fail
      refine (take_any (ss k) d st blk (n0 + offs ss k) hb wr hz hB hI (HD.out k hlt) hh hkr.out).mono ?_
      rintro e w1 ⟨rfl, st1, blk1, hB1, hI1, hg1⟩
      clear ck
      go_wp2_with fail
      go_roundw
      case rel => exact ⟨k + 1, by omega, by go_num, st1, blk1, by rw [show n0 + offs ss (k + 1) = n0 + offs ss k + (ss k).size from by rw [Nat.add_assoc]; rfl]; exact hB1, by rw [show n0 + offs ss (k + 1) = n0 + offs ss k + (ss k).size from by rw [Nat.add_assoc]; rfl]; exact hI1, grown_trans hg hg1⟩
      case measure => simp [intOf]; omega
    · have e : Hid (k = len) := by show k = len; omega
      go_wp2_with fail
      go_end0
      refine ⟨rfl, ?_⟩
      rw [← e.out]
      exact ⟨st, blk, hB, hI, hg⟩
end Go.Proofs.YtlbclfponongbaaGreatDoor.Dg
namespace Go.Proofs.YtlbclfponongbaaGreatDoor.Dg
open Go.RowKit
/- the parts as a text: byte i of all parts, one behind the other -/
def joinF (ss : Nat → ByteArray) : Nat → Nat → UInt8
  | 0, _ => 0
  | k + 1, i => if i < offs ss k then joinF ss k i else sAt (ss k) (i - offs ss k)
theorem joinF_parts (ss : Nat → ByteArray) (len i j : Nat) (hi : i < len) (hj : j < (ss i).size) : sAt (ss i) j = joinF ss len (offs ss i + j) := by
  induction len with
  | zero => omega
  | succ k ih =>
    unfold joinF
    by_cases c : i < k
    · have h1 := offs_mono ss (show i + 1 ≤ k by omega)
      have h2 : offs ss (i + 1) = offs ss i + (ss i).size := rfl
      rw [if_pos (by omega)]
      exact ih c
    · have e : i = k := by omega
      subst e
      rw [if_neg (by omega), show offs ss i + j - offs ss i = j by omega]
theorem joinF_Parts (ss : Nat → ByteArray) (len : Nat) : Parts ss len 0 (joinF ss len) := fun i hi j hj => by
  rw [Nat.zero_add]; exact joinF_parts ss len i j hi hj
/- a hash that has taken nothing -/
theorem zero_hash (w : World) (hb : Nat) (d : Nat → UInt8) (hB : Blk w hb 96 73 (hv (fun _ => 0) (fun _ => 0) 0)) : Taken hb d 0 w w :=
  ⟨_, _, hB, ⟨fun h => absurd h (by omega), fun i hi => absurd hi (by omega)⟩, grown_refl _ _⟩
/- what an argument slice of strings says -/
def Strs (w : World) (v : Value) (ss : Nat → ByteArray) (len : Nat) : Prop :=
  (∃ ad cap, v = .slice ad 0 cap ∧ len = 0) ∨ (∃ b o cap, v = .slice (some ⟨b, o, none⟩) len cap ∧ 0 < len ∧ b < w.heap.size ∧ ∀ i, i < len → w.cell? ⟨b, o + i, none⟩ = some (.string (ss i)))
theorem write_any (ss : Nat → ByteArray) (v : Value) (len : Nat) (d : Nat → UInt8) (n0 hb : Nat) (w w0 : World) (hl : len ≤ 1048576) (hn : n0 + offs ss len ≤ 1073741824) (hT : Taken hb d n0 w w)
    (hd : Parts ss len n0 d) (hh : hb ≠ 1) (hk : ∀ i, i < 64 → w.cell? ⟨1, i, none⟩ = some (wv kk i)) (hS : Strs w0 v ss len) (hb0 : Below w0.heap.size w0 w) (hhb : w0.heap.size ≤ hb) :
    Calls Tryz.prog 46 #[.pointer (some ⟨hb, 0, none⟩), v] w fun e w' => e = .returned (.tuple #[]) ∧ Taken hb d (n0 + offs ss len) w w' := by
  rcases hS with ⟨ad, cap, rfl, rfl⟩ | ⟨b, o, cap, rfl, h0, hb1, hc⟩
  · exact (write_none ad cap hb w).mono fun e w' h => ⟨h.1, by rw [← h.2]; exact hT⟩
  · exact write_some ss b o len cap d n0 hb w h0 hl hn hT hd hh (by omega) hk (fun i hi => by rw [hb0.cell hb1]; exact hc i hi)
def z73 : Array Value := arr 73 (hv (fun _ => 0) (fun _ => 0) 0)
theorem zero35 : ∀ w, (zeroValue 96).run Tryz.prog w = .ok (.agg z73) w := fun _ => by kernel_rfl
theorem newHash (w : World) : Blk (w.alloc (.cells z73 96)) w.heap.size 96 73 (hv (fun _ => 0) (fun _ => 0) 0) := Blk.newAt _ (heap_alloc_new w _) rfl
set_option maxHeartbeats 1000000 in
set_option maxRecDepth 100000 in
theorem sum_any (ss : Nat → ByteArray) (v : Value) (len : Nat) (w : World) (hl : len ≤ 1048576) (hn : offs ss len ≤ 1073741824) (hS : Strs w v ss len) (hk : ∀ i, i < 64 → w.cell? ⟨1, i, none⟩ = some (wv kk i)) :
    Calls Tryz.prog 25 #[v] w fun e w' => e = .returned (.agg (arr 32 (bv (dig (joinF ss len) (offs ss len))))) ∧ Below w.heap.size w w' := by
  have h0 : 1 < w.heap.size := block_lt_of_cell (hk 0 (by omega))
  have HK := Lib.hid hk
  clear hk
  have z := zero35
  go_enter Tryz.func25, Tryz.ntmps25
  go_wp2_with fail
  have L0 : ∀ A B, Below w.heap.size w ((w.alloc A).alloc B) := fun A B => ((Below.refl _ _).alloc (Nat.le_refl _) _).alloc (by simp) _
  have R0 := heap_alloc2_old w (.cells #[.int .u8 0, .int .u8 0, .int .u8 0, .int .u8 0, .int .u8 0, .int .u8 0, .int .u8 0, .int .u8 0, .int .u8 0, .int .u8 0, .int .u8 0, .int .u8 0, .int .u8 0, .int .u8 0, .int .u8 0, .int .u8 0, .int .u8 0, .int .u8 0, .int .u8 0, .int .u8 0, .int .u8 0, .int .u8 0, .int .u8 0, .int .u8 0, .int .u8 0, .int .u8 0, .int .u8 0, .int .u8 0, .int .u8 0, .int .u8 0, .int .u8 0, .int .u8 0] 29) (.cells z73 96)
  have B0 : Blk ((w.alloc (.cells #[.int .u8 0, .int .u8 0, .int .u8 0, .int .u8 0, .int .u8 0, .int .u8 0, .int .u8 0, .int .u8 0, .int .u8 0, .int .u8 0, .int .u8 0, .int .u8 0, .int .u8 0, .int .u8 0, .int .u8 0, .int .u8 0, .int .u8 0, .int .u8 0, .int .u8 0, .int .u8 0, .int .u8 0, .int .u8 0, .int .u8 0, .int .u8 0, .int .u8 0, .int .u8 0, .int .u8 0, .int .u8 0, .int .u8 0, .int .u8 0, .int .u8 0, .int .u8 0] 29)).alloc (.cells z73 96)) (w.heap.size + 1) 96 73 (hv (fun _ => 0) (fun _ => 0) 0) := Blk.newAt _ (heap_alloc2_new w _ _) rfl
  have hk0 := fun A B => (fun i hi => by rw [(L0 A B).cell h0]; exact HK.out i hi : ∀ i, i < 64 → ((w.alloc A).alloc B).cell? ⟨1, i, none⟩ = some (wv kk i))
  refine (write_any ss v len (joinF ss len) 0 (w.heap.size + 1) _ w hl (by omega) (zero_hash _ _ _ B0) (joinF_Parts ss len) (by omega) (hk0 _ _) hS (L0 _ _) (by omega)).mono ?_
  rintro e w1 ⟨rfl, st, blk, hB1, hI1, hg1⟩
  rw [Nat.zero_add] at hB1 hI1
  have R1 := Blk.grown (Blk.newAt (E := 29) (n := 32) (bv fun _ => 0) R0 (by rfl)) hg1 (by omega)
  have L1 := below_grown (L0 _ _) hg1 (by simp <;> omega) (by omega)
  have hk1 : ∀ i, i < 64 → w1.cell? ⟨1, i, none⟩ = some (wv kk i) := fun i hi => by rw [L1.cell h0]; exact HK.out i hi
  clear hg1 B0 R0 L0 hk0
  go_wp2_with fail
  refine (end_any (joinF ss len) st blk (offs ss len) (w.heap.size + 1) w1 hn hB1 hI1 (by omega) hk1).mono ?_
  rintro e w2 ⟨rfl, hg2⟩
  have R2 := R1.grown hg2 (by omega)
  have L2 := below_grown L1 hg2 (by have := L1.size; exact this) (by omega)
  clear hB1 hI1 R1 L1 hk1 hg2
  go_wp2_with (refine wpList_store_blk rfl 29 (.tmp 2) (.tmp 6) rfl w.heap.size 32 (bv (dig (joinF ss len) (offs ss len))) (bv fun _ => 0) rfl rfl 29 R2 sz26 (fun _ _ => rfl) ?_)
  have R3 := R2.setRow (bv (dig (joinF ss len) (offs ss len)))
  have L3 := below_setRow L2 (Nat.le_refl _) (arr 32 (bv (dig (joinF ss len) (offs ss len))))
  generalize w2.setRow w.heap.size (arr 32 (bv (dig (joinF ss len) (offs ss len)))) = w3 at R3 L3 ⊢
  exact bodyPost_ret (v := .agg (arr 32 (bv (dig (joinF ss len) (offs ss len))))) (results_blk rfl _ _ w.heap.size 29 32 _ R3 _ rfl ty26 rfl sz26) rfl ⟨rfl, L3⟩
end Go.Proofs.YtlbclfponongbaaGreatDoor.Dg
/- Bytes of texts. -/
namespace Go.Proofs.YtlbclfponongbaaGreatDoor.Dg
open Go.RowKit
theorem ty5 : Tryz.prog.underlying 5 = some (.int .u8) := by kernel_rfl
theorem ty9 : Tryz.prog.underlying 9 = some .string := by kernel_rfl
theorem idx_str (s : ByteArray) (i : Nat) (h : i < s.size) (w : World) : (Instr.index 9 (.string s) (.int .i64 (i : Int))).run Tryz.prog w = .ok (.int .u8 ((sAt s i).toNat : Int)) w := by
  have hs : s.data.size = s.size := rfl
  have e : sAt s i = s[i] := by
    unfold sAt
    rw [List.getD_eq_getElem?_getD, Array.getElem?_toList, Array.getElem?_eq_getElem (by omega)]; rfl
  rw [e]
  have hai : (asIntOf (.int .i64 (i : Int))).run Tryz.prog w = .ok (.i64, (i : Int)) w := rfl
  simp [Instr.index, run_underlying ty9, hai, h]
theorem sAt_ext (s : ByteArray) (a b j : Nat) (h1 : a ≤ b) (h2 : b ≤ s.size) (hj : j < b - a) : sAt (s.extract a b) j = sAt s (a + j) := by
  have hs : s.data.size = s.size := rfl
  unfold sAt
  rw [ByteArray.data_extract, List.getD_eq_getElem?_getD, List.getD_eq_getElem?_getD, Array.getElem?_toList, Array.getElem?_toList, Array.getElem?_extract_of_lt (by omega), Array.getElem?_eq_getElem (show a + j < s.data.size by omega)]
theorem size_ext (s : ByteArray) (a b : Nat) (h1 : a ≤ b) (h2 : b ≤ s.size) : (s.extract a b).size = b - a := by
  rw [ByteArray.size_extract]; omega
end Go.Proofs.YtlbclfponongbaaGreatDoor.Dg
