import Derived.Test.YtnfhnkplkbpmpaaDoorW7
namespace Go.Proofs.YtnfhnkplkbpmpaaDoor
open Go.RowKit
/- the parts as a text: byte i of all parts, one behind the other -/
def joinF (ss : Nat → ByteArray) : Nat → Nat → UInt8
  | 0, _ => 0
  | k + 1, i => if i < offs ss k then joinF ss k i else sAt (ss k) (i - offs ss k)
theorem joinF_parts (ss : Nat → ByteArray) (len i j : Nat) (hi : i < len) (hj : j < (ss i).size) : sAt (ss i) j = joinF ss len (offs ss i + j) := by
  induction len with
  | zero => omega
  | succ k ih =>
    unfold joinF
    by_cases c : i < k
    · have h1 := offs_mono ss (show i + 1 ≤ k by omega)
      have h2 : offs ss (i + 1) = offs ss i + (ss i).size := rfl
      rw [if_pos (by omega)]
      exact ih c
    · have e : i = k := by omega
      subst e
      rw [if_neg (by omega), show offs ss i + j - offs ss i = j by omega]
theorem joinF_Parts (ss : Nat → ByteArray) (len : Nat) : Parts ss len 0 (joinF ss len) := fun i hi j hj => by
  rw [Nat.zero_add]; exact joinF_parts ss len i j hi hj
/- a hash that has taken nothing -/
theorem zero_hash (w : World) (hb : Nat) (d : Nat → UInt8) (hB : Blk w hb 35 73 (hv (fun _ => 0) (fun _ => 0) 0)) : Taken hb d 0 w w :=
  ⟨_, _, hB, ⟨fun h => absurd h (by omega), fun i hi => absurd hi (by omega)⟩, grown_refl _ _⟩
/- what an argument slice of strings says -/
def Strs (w : World) (v : Value) (ss : Nat → ByteArray) (len : Nat) : Prop :=
  (∃ ad cap, v = .slice ad 0 cap ∧ len = 0) ∨ (∃ b o cap, v = .slice (some ⟨b, o, none⟩) len cap ∧ 0 < len ∧ b < w.heap.size ∧ ∀ i, i < len → w.cell? ⟨b, o + i, none⟩ = some (.string (ss i)))
theorem write_any (ss : Nat → ByteArray) (v : Value) (len : Nat) (d : Nat → UInt8) (n0 hb : Nat) (w w0 : World) (hl : len ≤ 1048576) (hn : n0 + offs ss len ≤ 1073741824) (hT : Taken hb d n0 w w)
    (hd : Parts ss len n0 d) (hh : hb ≠ 0) (hk : ∀ i, i < 64 → w.cell? ⟨0, i, none⟩ = some (wv kk i)) (hS : Strs w0 v ss len) (hb0 : Below w0.heap.size w0 w) (hhb : w0.heap.size ≤ hb) :
    Calls Tryd.prog 13 #[.pointer (some ⟨hb, 0, none⟩), v] w fun e w' => e = .returned (.tuple #[]) ∧ Taken hb d (n0 + offs ss len) w w' := by
  rcases hS with ⟨ad, cap, rfl, rfl⟩ | ⟨b, o, cap, rfl, h0, hb1, hc⟩
  · exact (write_none ad cap hb w).mono fun e w' h => ⟨h.1, by rw [← h.2]; exact hT⟩
  · exact write_some ss b o len cap d n0 hb w h0 hl hn hT hd hh (by omega) hk (fun i hi => by rw [hb0.cell hb1]; exact hc i hi)
def z73 : Array Value := arr 73 (hv (fun _ => 0) (fun _ => 0) 0)
theorem zero35 : ∀ w, (zeroValue 35).run Tryd.prog w = .ok (.agg z73) w := fun _ => by kernel_rfl
theorem newHash (w : World) : Blk (w.alloc (.cells z73 35)) w.heap.size 35 73 (hv (fun _ => 0) (fun _ => 0) 0) := Blk.newAt _ (heap_alloc_new w _) rfl
set_option maxHeartbeats 1000000 in
set_option maxRecDepth 100000 in
theorem sum_any (ss : Nat → ByteArray) (v : Value) (len : Nat) (w : World) (hl : len ≤ 1048576) (hn : offs ss len ≤ 1073741824) (hS : Strs w v ss len) (hk : ∀ i, i < 64 → w.cell? ⟨0, i, none⟩ = some (wv kk i)) :
    Calls Tryd.prog 10 #[v] w fun e w' => e = .returned (.agg (arr 32 (bv (dig (joinF ss len) (offs ss len))))) ∧ Below w.heap.size w w' := by
  have h0 : 0 < w.heap.size := block_lt_of_cell (hk 0 (by omega))
  have HK := Lib.hid hk
  clear hk
  have z := zero35
  go_enter Tryd.func10, Tryd.ntmps10
  go_wp2_with fail
  have L0 : ∀ A B, Below w.heap.size w ((w.alloc A).alloc B) := fun A B => ((Below.refl _ _).alloc (Nat.le_refl _) _).alloc (by simp) _
  have R0 := heap_alloc2_old w (.cells #[.int .u8 0, .int .u8 0, .int .u8 0, .int .u8 0, .int .u8 0, .int .u8 0, .int .u8 0, .int .u8 0, .int .u8 0, .int .u8 0, .int .u8 0, .int .u8 0, .int .u8 0, .int .u8 0, .int .u8 0, .int .u8 0, .int .u8 0, .int .u8 0, .int .u8 0, .int .u8 0, .int .u8 0, .int .u8 0, .int .u8 0, .int .u8 0, .int .u8 0, .int .u8 0, .int .u8 0, .int .u8 0, .int .u8 0, .int .u8 0, .int .u8 0, .int .u8 0] 26) (.cells z73 35)
  have B0 : Blk ((w.alloc (.cells #[.int .u8 0, .int .u8 0, .int .u8 0, .int .u8 0, .int .u8 0, .int .u8 0, .int .u8 0, .int .u8 0, .int .u8 0, .int .u8 0, .int .u8 0, .int .u8 0, .int .u8 0, .int .u8 0, .int .u8 0, .int .u8 0, .int .u8 0, .int .u8 0, .int .u8 0, .int .u8 0, .int .u8 0, .int .u8 0, .int .u8 0, .int .u8 0, .int .u8 0, .int .u8 0, .int .u8 0, .int .u8 0, .int .u8 0, .int .u8 0, .int .u8 0, .int .u8 0] 26)).alloc (.cells z73 35)) (w.heap.size + 1) 35 73 (hv (fun _ => 0) (fun _ => 0) 0) := Blk.newAt _ (heap_alloc2_new w _ _) rfl
  have hk0 := fun A B => (fun i hi => by rw [(L0 A B).cell h0]; exact HK.out i hi : ∀ i, i < 64 → ((w.alloc A).alloc B).cell? ⟨0, i, none⟩ = some (wv kk i))
  refine (write_any ss v len (joinF ss len) 0 (w.heap.size + 1) _ w hl (by omega) (zero_hash _ _ _ B0) (joinF_Parts ss len) (by omega) (hk0 _ _) hS (L0 _ _) (by omega)).mono ?_
  rintro e w1 ⟨rfl, st, blk, hB1, hI1, hg1⟩
  rw [Nat.zero_add] at hB1 hI1
  have R1 := Blk.grown (Blk.newAt (E := 26) (n := 32) (bv fun _ => 0) R0 (by rfl)) hg1 (by omega)
  have L1 := below_grown (L0 _ _) hg1 (by simp <;> omega) (by omega)
  have hk1 : ∀ i, i < 64 → w1.cell? ⟨0, i, none⟩ = some (wv kk i) := fun i hi => by rw [L1.cell h0]; exact HK.out i hi
  clear hg1 B0 R0 L0 hk0
  go_wp2_with fail
  refine (end_any (joinF ss len) st blk (offs ss len) (w.heap.size + 1) w1 hn hB1 hI1 (by omega) hk1).mono ?_
  rintro e w2 ⟨rfl, hg2⟩
  have R2 := R1.grown hg2 (by omega)
  have L2 := below_grown L1 hg2 (by have := L1.size; exact this) (by omega)
  clear hB1 hI1 R1 L1 hk1 hg2
  go_wp2_with (refine wpList_store_blk rfl 26 (.tmp 2) (.tmp 6) rfl w.heap.size 32 (bv (dig (joinF ss len) (offs ss len))) (bv fun _ => 0) rfl rfl 26 R2 sz26 (fun _ _ => rfl) ?_)
  have R3 := R2.setRow (bv (dig (joinF ss len) (offs ss len)))
  have L3 := below_setRow L2 (Nat.le_refl _) (arr 32 (bv (dig (joinF ss len) (offs ss len))))
  generalize w2.setRow w.heap.size (arr 32 (bv (dig (joinF ss len) (offs ss len)))) = w3 at R3 L3 ⊢
  exact bodyPost_ret (v := .agg (arr 32 (bv (dig (joinF ss len) (offs ss len))))) (results_blk rfl _ _ w.heap.size 26 32 _ R3 _ rfl ty26 rfl sz26) rfl ⟨rfl, L3⟩
end Go.Proofs.YtnfhnkplkbpmpaaDoor
