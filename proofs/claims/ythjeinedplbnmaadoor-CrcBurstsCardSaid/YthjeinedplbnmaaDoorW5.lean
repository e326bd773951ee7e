import Derived.Test.YthjeinedplbnmaaDoorW4
import Derived.Test.YthjeinedplbnmaaDoorSh
import Derived.Deep.QuietTactic
import Derived.BigQuiet
namespace Go.Proofs.YthjeinedplbnmaaDoor
open Go.RowKit
theorem strclone_any (s : ByteArray) (w : World) (hs : s.size ≤ 1073741824) :
    Calls Tryd.prog 25 #[.string s] w fun e w' => e = .returned (.string s) ∧ Below w.heap.size w w' := by
  go_enter Tryd.func25, Tryd.ntmps25
  go_wp2_with fail
  refine (clone_shelf s w (by omega)).mono ?_
  rintro e w1 ⟨rfl, L1⟩
  go_wp2_with fail
  go_ret
  exact ⟨rfl, L1⟩
theorem beqS (a b : ByteArray) : (a.toList == b.toList) = decide (a = b) := by
  rw [ByteArray.toList_eq, ByteArray.toList_eq]
  by_cases h : a = b
  · subst h; rw [decide_eq_true rfl]; simp
  · rw [decide_eq_false h, beq_eq_false_iff_ne]
    intro e
    apply h
    apply ByteArray.ext
    exact Array.toList_inj.1 e
theorem two_parts (s : ByteArray) (n : Nat) (h : n ≤ s.size) : s.extract 0 n ++ s.extract n s.size = s := by
  rw [ByteArray.extract_append_extract, Nat.zero_min, Nat.max_eq_right h, ByteArray.extract_zero_size]
theorem below_drewN {B : Nat} {a b : World} (h : Below B a b) (q : Nat) : Below B a (b.drewN q) := h.trans ⟨rfl, rfl, rfl, Nat.le_refl _, fun _ _ => rfl⟩
/- what Unseal tells -/
def okS (s : ByteArray) : Bool := decide (4 ≤ s.size) && decide (sealS (s.extract 0 (s.size - 4)) = s)
def unS (s : ByteArray) : ByteArray := if okS s = true then s.extract 0 (s.size - 4) else ⟨#[]⟩
theorem okS_part (s : ByteArray) (n : Nat) (g : Nat → UInt8) (hn : s.size = n + 4) (hg : g = sb (sumF (sAt (s.extract 0 n)) (s.extract 0 n).size)) :
    ((s.extract n s.size).toList == (str 4 g).toList) = okS s := by
  have e : s.size - 4 = n := by omega
  unfold okS
  rw [beqS, decide_eq_true (show 4 ≤ s.size by omega), Bool.true_and, e, decide_eq_decide]
  unfold sealS
  rw [← hg]
  constructor
  · intro h
    rw [← h]
    exact two_parts s n (by omega)
  · intro h
    have h2 := two_parts s n (by omega)
    exact (ByteArray.append_right_inj (s.extract 0 n)).1 (h2.trans h.symm)
theorem okS_ref (s : ByteArray) (n : Nat) (hn : s.size = n + 4) : ((sealS (s.extract 0 n)).toList == s.toList) = okS s := by
  have e : s.size - 4 = n := by omega
  unfold okS
  rw [beqS, decide_eq_true (show 4 ≤ s.size by omega), Bool.true_and, e]
theorem unseal_few (s : ByteArray) (w : World) (hs : s.size < 4) :
    Calls Tryd.prog 18 #[.string s] w fun e w' => e = .returned (.tuple #[.string (unS s), .bool (okS s)]) ∧ Below w.heap.size w w' := by
  have e1 : okS s = false := by unfold okS; rw [decide_eq_false (by omega)]; rfl
  have e2 : unS s = ⟨#[]⟩ := by unfold unS; rw [e1]; rfl
  rw [e1, e2]
  clear e1 e2
  have b1 : (s.size : Int) - 4 < 0 := by omega
  go_enter Tryd.func18, Tryd.ntmps18
  go_wp2
  go_ret2
  exact ⟨rfl, Below.refl _ _⟩
set_option maxHeartbeats 400000 in
set_option maxRecDepth 100000 in
theorem unseal_more (s : ByteArray) (n : Nat) (w : World) (hn : s.size = n + 4) (hs : s.size ≤ 1073741824) (hk : ∀ i, i < 16 → w.cell? ⟨0, i, none⟩ = some (wv hb i)) :
    Calls Tryd.prog 18 #[.string s] w fun e w' => e = .returned (.tuple #[.string (unS s), .bool (okS s)]) ∧ Below w.heap.size w w' := by
  have h0 : 0 < w.heap.size := block_lt_of_cell (hk 0 (by omega))
  have HK := Lib.hid hk
  clear hk
  have e4 : (s.size : Int) - 4 = (n : Int) := by omega
  have w4 : IntKind.i64.wrap ((s.size : Int) - 4) = (n : Int) := by rw [IntWalk.i64_in _ (by omega), e4]
  have ts : (s.extract 0 n).size = n := by rw [size_ext _ _ _ (by omega) (by omega)]; omega
  have b0 : (0 : Int) ≤ (n : Int) := by omega
  have b2 : (n : Int) ≤ (s.size : Int) := by omega
  have eu : unS s = if okS s = true then s.extract 0 n else ⟨#[]⟩ := by
    unfold unS
    rw [show s.size - 4 = n by omega]
  obtain ⟨q, hq⟩ : ∃ q, q = okS s := ⟨_, rfl⟩
  obtain ⟨u, hu⟩ : ∃ u, u = unS s := ⟨_, rfl⟩
  rw [← hq, ← hu]
  rw [← hq, ← hu] at eu
  have HU := Lib.hid eu
  have HQ := Lib.hid hq
  have Hn := Lib.hid hn
  clear hn eu hq hu
  go_enter Tryd.func18, Tryd.ntmps18
  go_wp2_with fail
  refine (sealof_any (s.extract 0 n) _ (by omega) HK.out).mono ?_
  rintro e w1 ⟨rfl, L1⟩
  obtain ⟨g, hg⟩ : ∃ g, g = sb (sumF (sAt (s.extract 0 n)) (s.extract 0 n).size) := ⟨_, rfl⟩
  rw [← hg]
  have Hg := Lib.hid hg
  clear hg
  go_upto_region 5 with (refine wpList_store_blk rfl 44 (.tmp 5) (.tmp 14) rfl w1.heap.size 4 (bv g) (bv fun _ => 0) rfl rfl 44 (Blk.newAt _ (heap_alloc_new _ _) rfl) sz44 (fun _ _ => rfl) ?_)
  rw [World.setRow_alloc_new]
  have K2 : Blk (w1.alloc (.cells (arr 4 (bv g)) 44)) w1.heap.size 44 4 (bv g) := Blk.newAt _ (heap_alloc_new _ _) rfl
  have L2 := L1.alloc L1.size (.cells (arr 4 (bv g)) 44)
  generalize w1.alloc (.cells (arr 4 (bv g)) 44) = w2 at K2 L2 ⊢
  have hc := fun q => conv_blk (w2.drewN q) w1.heap.size 44 4 4 g (K2.drewN q)
  have ho := okS_part s n g Hn.out Hg.out
  rw [← HQ.out] at ho
  go_quiet (fail)
  clear ho
  cases q
  · go_wp2
    go_ret2
    rw [HU.out]
    exact ⟨rfl, below_drewN L2 _⟩
  · go_wp2_with fail
    refine (strclone_any (s.extract 0 n) _ (by omega)).mono ?_
    rintro e w3 ⟨rfl, L3⟩
    go_wp2_with fail
    go_ret2
    rw [HU.out]
    exact ⟨rfl, (below_drewN L2 _).trans (L3.mono (by simp; exact L2.size))⟩
theorem unseal_any (s : ByteArray) (w : World) (hs : s.size ≤ 1073741824) (hk : ∀ i, i < 16 → w.cell? ⟨0, i, none⟩ = some (wv hb i)) :
    Calls Tryd.prog 18 #[.string s] w fun e w' => e = .returned (.tuple #[.string (unS s), .bool (okS s)]) ∧ Below w.heap.size w w' := by
  by_cases c : s.size < 4
  · exact unseal_few s w c
  · exact unseal_more s (s.size - 4) w (by omega) hs hk
theorem refunseal_few (s : ByteArray) (w : World) (hs : s.size < 4) :
    Calls Tryd.prog 19 #[.string s] w fun e w' => e = .returned (.tuple #[.string (unS s), .bool (okS s)]) ∧ Below w.heap.size w w' := by
  have e1 : okS s = false := by unfold okS; rw [decide_eq_false (by omega)]; rfl
  have e2 : unS s = ⟨#[]⟩ := by unfold unS; rw [e1]; rfl
  rw [e1, e2]
  clear e1 e2
  have b1 : (s.size : Int) < 4 := by omega
  go_enter Tryd.func19, Tryd.ntmps19
  go_wp2
  go_ret2
  exact ⟨rfl, Below.refl _ _⟩
set_option maxHeartbeats 400000 in
set_option maxRecDepth 100000 in
theorem refunseal_more (s : ByteArray) (n : Nat) (w : World) (hn : s.size = n + 4) (hs : s.size ≤ 1073741824) :
    Calls Tryd.prog 19 #[.string s] w fun e w' => e = .returned (.tuple #[.string (unS s), .bool (okS s)]) ∧ Below w.heap.size w w' := by
  have e4 : (s.size : Int) - 4 = (n : Int) := by omega
  have w4 : IntKind.i64.wrap ((s.size : Int) - 4) = (n : Int) := by rw [IntWalk.i64_in _ (by omega), e4]
  have ts : (s.extract 0 n).size = n := by rw [size_ext _ _ _ (by omega) (by omega)]; omega
  have b0 : (0 : Int) ≤ (n : Int) := by omega
  have b2 : (n : Int) ≤ (s.size : Int) := by omega
  have b4 : decide ((s.size : Int) < 4) = false := by simp; omega
  have ho := okS_ref s n hn
  have eu : unS s = if okS s = true then s.extract 0 n else ⟨#[]⟩ := by
    unfold unS
    rw [show s.size - 4 = n by omega]
  obtain ⟨q, hq⟩ : ∃ q, q = okS s := ⟨_, rfl⟩
  obtain ⟨u, hu⟩ : ∃ u, u = unS s := ⟨_, rfl⟩
  rw [← hq, ← hu]
  rw [← hq, ← hu] at eu
  rw [← hq] at ho
  have HU := Lib.hid eu
  clear hn eu hq hu
  go_enter Tryd.func19, Tryd.ntmps19
  go_wp2_with fail
  refine (refseal_any (s.extract 0 n) _ (by omega)).mono ?_
  rintro e w1 ⟨rfl, L1⟩
  cases q
  · go_wp2
    go_ret2
    rw [HU.out]
    exact ⟨rfl, L1⟩
  · go_wp2
    go_ret2
    rw [HU.out]
    exact ⟨rfl, L1⟩
theorem refunseal_any (s : ByteArray) (w : World) (hs : s.size ≤ 1073741824) :
    Calls Tryd.prog 19 #[.string s] w fun e w' => e = .returned (.tuple #[.string (unS s), .bool (okS s)]) ∧ Below w.heap.size w w' := by
  by_cases c : s.size < 4
  · exact refunseal_few s w c
  · exact refunseal_more s (s.size - 4) w (by omega) hs
end Go.Proofs.YthjeinedplbnmaaDoor
