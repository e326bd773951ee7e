import Derived.Test.YtnfhnkplkbpmpaaDoorS2
namespace Go.Proofs.YtnfhnkplkbpmpaaDoor
open Go.RowKit
set_option maxHeartbeats 1000000 in
set_option maxRecDepth 100000 in
theorem hlen_any (st : Nat → W32) (blk : Nat → UInt8) (n hb : Nat) (w : World) (hB : Blk w hb 35 73 (hv st blk n)) :
    Calls Tryd.prog 15 #[.pointer (some ⟨hb, 0, none⟩)] w fun e w' => e = .returned (.int .u64 (n : Int)) ∧ w = w' := by
  have cn : w.cell? ⟨hb, 72, none⟩ = some (.int .u64 (n : Int)) := hB.cell 72 (by omega)
  go_enter Tryd.func15, Tryd.ntmps15
  go_wp2
  go_ret
  exact ⟨rfl, rfl⟩
set_option maxHeartbeats 1000000 in
set_option maxRecDepth 100000 in
theorem hlen_nil (w : World) : Calls Tryd.prog 15 #[.pointer none] w fun e w' => e = .returned (.int .u64 0) ∧ w = w' := by
  go_enter Tryd.func15, Tryd.ntmps15
  go_wp2
  go_ret
  exact ⟨rfl, rfl⟩
theorem oneHv (st : Nat → W32) (blk : Nat → UInt8) (n i : Nat) : (hv st blk n i).oneCell' = true := by
  unfold hv
  split
  · rfl
  · split <;> rfl
theorem zero26 : (#[.int .u8 0, .int .u8 0, .int .u8 0, .int .u8 0, .int .u8 0, .int .u8 0, .int .u8 0, .int .u8 0, .int .u8 0, .int .u8 0, .int .u8 0, .int .u8 0, .int .u8 0, .int .u8 0, .int .u8 0, .int .u8 0, .int .u8 0, .int .u8 0, .int .u8 0, .int .u8 0, .int .u8 0, .int .u8 0, .int .u8 0, .int .u8 0, .int .u8 0, .int .u8 0, .int .u8 0, .int .u8 0, .int .u8 0, .int .u8 0, .int .u8 0, .int .u8 0] : Array Value) = arr 32 (bv fun _ => 0) := by rfl
set_option maxHeartbeats 1000000 in
set_option maxRecDepth 100000 in
theorem hsum_any (d : Nat → UInt8) (st : Nat → W32) (blk : Nat → UInt8) (n hb : Nat) (w : World) (hn : n ≤ 1073741824) (hB : Blk w hb 35 73 (hv st blk n)) (hI : Inv d st blk n)
    (hk : ∀ i, i < 64 → w.cell? ⟨0, i, none⟩ = some (wv kk i)) :
    Calls Tryd.prog 14 #[.pointer (some ⟨hb, 0, none⟩)] w fun e w' => e = .returned (.agg (arr 32 (bv (dig d n)))) ∧ Below w.heap.size w w' := by
  have h0 : 0 < w.heap.size := block_lt_of_cell (hk 0 (by omega))
  have HK := Lib.hid hk
  clear hk
  have hlt := hB.lt
  have z := zero35
  have L0 : ∀ A B, Below w.heap.size w ((w.alloc A).alloc B) := fun A B => ((Below.refl _ _).alloc (Nat.le_refl _) _).alloc (by simp) _
  have Z0 : ∀ A B, ((w.alloc A).alloc B).heap.size = w.heap.size + 2 := fun A B => by show ((w.heap.push A).push B).size = _; simp
  have R0 : ∀ A, Blk ((w.alloc (.cells (arr 32 (bv fun _ => 0)) 26)).alloc A) w.heap.size 26 32 (bv fun _ => 0) := fun A => Blk.newAt _ (heap_alloc2_old w _ _) rfl
  have N0 : ∀ A, Blk ((w.alloc A).alloc (.cells z73 35)) (w.heap.size + 1) 35 73 (hv (fun _ => 0) (fun _ => 0) 0) := fun A => Blk.newAt _ (heap_alloc2_new w _ _) rfl
  have H0 : ∀ A B, Blk ((w.alloc A).alloc B) hb 35 73 (hv st blk n) := fun A B => (hB.alloc A).alloc B
  have N1 : ∀ A, Blk (((w.alloc A).alloc (.cells z73 35)).setRow (w.heap.size + 1) (arr 73 (hv st blk n))) (w.heap.size + 1) 35 73 (hv st blk n) := fun A => (N0 A).setRow _
  have R1 : ∀ cs A, cs = arr 32 (bv fun _ => 0) → Blk (((w.alloc (.cells cs 26)).alloc A).setRow (w.heap.size + 1) (arr 73 (hv st blk n))) w.heap.size 26 32 (bv fun _ => 0) := fun cs A h => by
    rw [h]; exact (R0 A).setRowOther _ _ (by omega)
  have L1 : ∀ A B, Below w.heap.size w (((w.alloc A).alloc B).setRow (w.heap.size + 1) (arr 73 (hv st blk n))) := fun A B => below_setRow (L0 A B) (Nat.le_succ _) _
  go_enter Tryd.func14, Tryd.ntmps14
  go_wp2_with (first | (refine wpList_load_blk rfl 35 (.tmp 7) rfl hb rfl 35 73 (hv st blk n) (H0 _ _) _ Tryd.underlying35 rfl sz35 ?_) | (refine wpList_store_blk rfl 35 (.tmp 3) (.tmp 8) rfl (w.heap.size + 1) 73 (hv st blk n) (hv (fun _ => 0) (fun _ => 0) 0) rfl rfl 35 (N0 _) sz35 (fun i _ => oneHv st blk n i) ?_))
  refine (end_any d st blk n (w.heap.size + 1) _ hn (N1 _) hI (by omega) (fun i hi => by rw [(L1 _ _).cell h0]; exact HK.out i hi)).mono ?_
  rintro e w2 ⟨rfl, hg2⟩
  have R2 := (R1 _ _ zero26).grown hg2 (by omega)
  have L2 := below_grown (L1 _ _) hg2 (L1 _ _).size (by omega)
  clear hg2 N0 N1 R0 R1 L0 L1 H0 Z0
  go_wp2_with (refine wpList_store_blk rfl 26 (.tmp 2) (.tmp 9) rfl w.heap.size 32 (bv (dig d n)) (bv fun _ => 0) rfl rfl 26 R2 sz26 (fun _ _ => rfl) ?_)
  have R3 := R2.setRow (bv (dig d n))
  have L3 := below_setRow L2 (Nat.le_refl _) (arr 32 (bv (dig d n)))
  generalize w2.setRow w.heap.size (arr 32 (bv (dig d n))) = w3 at R3 L3 ⊢
  exact bodyPost_ret (v := .agg (arr 32 (bv (dig d n)))) (results_blk rfl _ _ w.heap.size 26 32 _ R3 _ rfl ty26 rfl sz26) rfl ⟨rfl, L3⟩
set_option maxHeartbeats 1000000 in
set_option maxRecDepth 100000 in
theorem hsum_nil (d : Nat → UInt8) (w : World) (hk : ∀ i, i < 64 → w.cell? ⟨0, i, none⟩ = some (wv kk i)) :
    Calls Tryd.prog 14 #[.pointer none] w fun e w' => e = .returned (.agg (arr 32 (bv (dig d 0)))) ∧ Below w.heap.size w w' := by
  have h0 : 0 < w.heap.size := block_lt_of_cell (hk 0 (by omega))
  have HK := Lib.hid hk
  clear hk
  have z := zero35
  have L0 : ∀ A B, Below w.heap.size w ((w.alloc A).alloc B) := fun A B => ((Below.refl _ _).alloc (Nat.le_refl _) _).alloc (by simp) _
  have R0 : ∀ cs A, cs = arr 32 (bv fun _ => 0) → Blk ((w.alloc (.cells cs 26)).alloc A) w.heap.size 26 32 (bv fun _ => 0) := fun cs A h => Blk.newAt _ (heap_alloc2_old w _ _) h
  have N0 : ∀ A, Blk ((w.alloc A).alloc (.cells z73 35)) (w.heap.size + 1) 35 73 (hv (fun _ => 0) (fun _ => 0) 0) := fun A => Blk.newAt _ (heap_alloc2_new w _ _) rfl
  have I0 : Inv d (fun _ => 0) (fun _ => 0) 0 := ⟨fun h => absurd h (by omega), fun i hi => absurd hi (by omega)⟩
  go_enter Tryd.func14, Tryd.ntmps14
  go_wp2_with fail
  refine (end_any d _ _ 0 (w.heap.size + 1) _ (by omega) (N0 _) I0 (by omega) (fun i hi => by rw [(L0 _ _).cell h0]; exact HK.out i hi)).mono ?_
  rintro e w2 ⟨rfl, hg2⟩
  have R2 := (R0 _ _ zero26).grown hg2 (by omega)
  have L2 := below_grown (L0 _ _) hg2 (L0 _ _).size (by omega)
  clear hg2 N0 R0 L0
  go_wp2_with (refine wpList_store_blk rfl 26 (.tmp 2) (.tmp 9) rfl w.heap.size 32 (bv (dig d 0)) (bv fun _ => 0) rfl rfl 26 R2 sz26 (fun _ _ => rfl) ?_)
  have R3 := R2.setRow (bv (dig d 0))
  have L3 := below_setRow L2 (Nat.le_refl _) (arr 32 (bv (dig d 0)))
  generalize w2.setRow w.heap.size (arr 32 (bv (dig d 0))) = w3 at R3 L3 ⊢
  exact bodyPost_ret (v := .agg (arr 32 (bv (dig d 0)))) (results_blk rfl _ _ w.heap.size 26 32 _ R3 _ rfl ty26 rfl sz26) rfl ⟨rfl, L3⟩
/- one part more -/
theorem joinF_more (ss : Nat → ByteArray) {k len : Nat} (h : k ≤ len) (i : Nat) (hi : i < offs ss k) : joinF ss len i = joinF ss k i := by
  induction h with
  | refl => rfl
  | step h ih =>
    have := offs_mono ss h
    show (if i < offs ss _ then joinF ss _ i else _) = _
    rw [if_pos (by omega)]; exact ih
theorem neq_arr (f : Nat → UInt8) (w : World) : (binOp .neq 26 (.agg (arr 32 (bv f))) (.agg (arr 32 (bv f)))).run Tryd.prog w = .ok (.bool false) w := by
  rw [run_neq_arr8 w 26 5 32 f f ty26 ty5 sz5, decide_eq_true (fun _ _ => rfl)]; rfl
theorem below_next {a b c : World} (h : Below a.heap.size a b) (h2 : Below b.heap.size b c) : Below a.heap.size a c := h.trans (h2.mono h.size)
/- a part behind a text -/
def behind (d : Nat → UInt8) (n : Nat) (t : ByteArray) (i : Nat) : UInt8 := if i < n then d i else sAt t (i - n)
theorem str_behind (d : Nat → UInt8) (n : Nat) (t : ByteArray) : str n d ++ t = str (n + t.size) (behind d n t) := by
  have e1 : str n d ++ t = str n d ++ str t.size (sAt t) := congrArg (fun z => str n d ++ z) (str_self t)
  rw [e1, str_congr (g := behind d n t) (fun i hi => by unfold behind; rw [if_pos hi])]
  exact str_add _ _ _ _ (fun i hi => by unfold behind; rw [if_neg (by omega), show n + i - n = i by omega])
theorem behind_join (ss : Nat → ByteArray) (k : Nat) (i : Nat) : behind (joinF ss k) (offs ss k) (ss k) i = joinF ss (k + 1) i := rfl
theorem parts_one (d : Nat → UInt8) (n : Nat) (t : ByteArray) : Parts (fun _ => t) 1 n (behind d n t) := fun i hi j hj => by
  have e : i = 0 := by omega
  subst e
  unfold behind
  show sAt t j = if n + 0 + j < n then _ else sAt t (n + 0 + j - n)
  rw [if_neg (by omega), show n + 0 + j - n = j by omega]
end Go.Proofs.YtnfhnkplkbpmpaaDoor
