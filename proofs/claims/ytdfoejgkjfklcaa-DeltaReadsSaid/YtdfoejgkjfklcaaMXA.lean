import Derived.Test.YtdfoejgkjfklcaaMX9
import Derived.Carry
/- New. -/
namespace Go.Proofs.Ytdfoejgkjfklcaa.Mt
set_option maxRecDepth 100000
open Go.RowKit
/- the numbers of all windows, of any text -/
theorem all_both (s : ByteArray) (w : World) (hs : s.size ≤ 5000) : Calls Try.prog 37 #[.string s] w fun e w' => ∃ ad cap, e = .returned (.slice ad (s.size - 15) cap) ∧
    (∀ q, q < s.size - 15 → ∃ g c d, ad = some ⟨g, 0, none⟩ ∧ (w.heap.size ≤ g ∧ g < w'.heap.size) ∧ Cx c d (num (sAt s) q).1 (num (sAt s) q).2 ∧ ∀ w2 : World, w2.heap[g]? = w'.heap[g]? → w2.cell? ⟨g, q, none⟩ = some (.complex .f64 c d)) ∧ Below w.heap.size w w' := by
  by_cases h : s.size < 16
  · refine (all_few s w h).mono ?_
    rintro e w' ⟨rfl, rfl⟩
    exact ⟨none, 0, by rw [show s.size - 15 = 0 by omega], fun q hq => by omega, Below.refl _ _⟩
  · refine (all_any s (sAt s) w (by omega) hs rfl).mono ?_
    rintro e w' ⟨g, cap, xs, rfl, hO, hN, hB⟩
    refine ⟨_, _, rfl, fun q hq => ?_, hB⟩
    obtain ⟨c, d, h1, h2⟩ := hN.2 q hq
    have hlt := hO.lt g rfl
    refine ⟨g, c, d, rfl, hlt, h2, fun w2 hw => ?_⟩
    have := hO.cellAt q (by omega)
    rw [World.cell?_of_block (a := ⟨g, q, none⟩) hw, this, h1]
set_option maxHeartbeats 4000000 in
theorem new_any (s : ByteArray) (w : World) (hs : s.size ≤ 5000) (CL : ∀ W : World, Calls Try.prog 38 #[.string s] W fun e w' => e = .returned (.string s) ∧ Below W.heap.size W w') :
    Calls Try.prog 16 #[.string s] w fun e w' => ∃ p b, e = .returned (.pointer (some ⟨p, 0, none⟩)) ∧ Ix w' b p s ∧ Below w.heap.size w w' := by
  have hmm := @run_makeMap Try.prog
  have C1 : Hid (∀ W : World, _) := fun W => all_both s W hs
  have C2 := Lib.hid CL
  obtain ⟨f, hf⟩ : ∃ f, f = sAt s := ⟨_, rfl⟩
  obtain ⟨n, hn⟩ : ∃ n, n = s.size - 15 := ⟨_, rfl⟩
  have IXE : Hid (∀ w' b p, Ix w' b p s = ∃ m, w'.heap[p]? = some (.cells #[.string s, .map (some m)] 79 (0, 0)) ∧ Mp w' b m (fun x => pl f x n)) := fun w' b p => by rw [hf, hn]; rfl
  have HN : Hid (n ≤ 5000) := by show n ≤ 5000; omega
  rw [← hf, ← hn] at C1
  clear hf hn hs CL
  go_enter Try.func16, Try.ntmps16
  go_wp2_with fail
  refine (C1.out _).mono ?_
  rintro e w2 ⟨ad, cap, rfl, hcell, B1⟩
  have z1 := B1.size
  have M2 : Hid (Mp w2 w2.heap.size w.heap.size (fun x => pl f x 0)) := by
    refine Mp.below (n := (w.alloc (.map #[] 0)).heap.size) ?_ (Nat.le_refl _) B1
    exact (Mp.made w w2.heap.size).congr (fun x => rfl)
  have L2 : Hid (Below w.heap.size w w2) := ((Below.refl _ _).alloc (Nat.le_refl _) _).trans (B1.mono (by simp))
  have HC := Lib.hid hcell
  have ZZ : Hid (w.heap.size < w2.heap.size) := by
    have : (w.alloc (.map #[] 0)).heap.size = w.heap.size + 1 := by simp
    show _ < _
    omega
  clear B1 z1 hcell C1
  go_wp2
  have E0 : (w.alloc (.map #[] 0)).heap.size = w.heap.size + 1 := by simp
  have STEP : Hid (∀ q, (pl f (num f q) q).length < 8 → ∀ x, (if x = num f q then pl f (num f q) q ++ [q] else pl f x q) = pl f x (q + 1)) := fun q h x => by
    rw [pl_succ]
    by_cases e : x = num f q
    · rw [if_pos e, e, if_pos ⟨rfl, h⟩]
    · rw [if_neg e, if_neg (fun h => e h.1.symm)]
  have STAY : Hid (∀ q, ¬ (pl f (num f q) q).length < 8 → ∀ x, pl f x q = pl f x (q + 1)) := fun q h x => by
    rw [pl_succ]
    by_cases e : num f q = x
    · rw [if_neg (fun c => h (by rw [e]; exact c.2))]
    · rw [if_neg (fun h => e h.1)]
  go_loopw [11] (fun i wr => ∃ q : Nat, q ≤ n ∧ i = .int .i64 (q : Int) ∧ Hid (Mp wr w2.heap.size w.heap.size (fun x => pl f x q)) ∧ Hid (Below w.heap.size w wr) ∧ Hid (w2.heap.size ≤ wr.heap.size ∧ ∀ j, j < w2.heap.size → j ≠ w.heap.size → wr.heap[j]? = w2.heap[j]?)) (fun i _ => n - (intOf i).toNat)
  case atStart => exact ⟨0, Nat.zero_le _, rfl, M2, L2, Nat.le_refl _, fun _ _ _ => rfl⟩
  case round =>
    obtain ⟨q, hq, rfl, hM, hB, hK⟩ := hrel
    by_cases hlt : q < n
    · obtain ⟨g, c, d, rfl, hg, hc, hcell⟩ := HC.out q hlt
      have c0 := hcell wr (hK.out.2 g hg.2 (by omega))
      have z := HN.out
      have z2 := ZZ.out
      have yk : (q : Int) < (n : Int) := by omega
      have zk : (0 : Int) ≤ (q : Int) := by omega
      have w1' : IntKind.i64.wrap ((q : Int) + 1) = (q : Int) + 1 := IntWalk.i64_in _ (by omega)
      by_cases h8 : (pl f (num f q) q).length < 8
      · obtain ⟨v, hlook, hown, v', w5, w6, hap, hup, hM', hB', hsz, hkeep⟩ := hM.out.more hK.out.1 hB.out (Nat.le_of_lt z2) (Nat.le_refl _) hc q h8
        obtain ⟨ad', cap', rfl, _⟩ := row_form hown
        obtain ⟨ln, hln⟩ : ∃ ln, ln = (pl f (num f q) q).length := ⟨_, rfl⟩
        rw [← hln] at hap hlook
        have t8 : (ln : Int) < 8 := by omega
        have HM' : Hid (Mp w6 w2.heap.size w.heap.size (fun x => pl f x (q + 1))) := hM'.congr (STEP.out q h8)
        have HB' := Lib.hid hB'
        have HK' : Hid (w2.heap.size ≤ w6.heap.size ∧ ∀ j, j < w2.heap.size → j ≠ w.heap.size → w6.heap[j]? = w2.heap[j]?) := ⟨Nat.le_trans hK.out.1 hsz, fun j hj hne => (hkeep j hj hne).trans (hK.out.2 j hj hne)⟩
        clear hM' hB' hsz hkeep hown h8 hln hg hc hcell z z2 hM hB hK STEP STAY M2 L2
        go_wp2_with (first | (at_lookup; refine wpList_lookup_run rfl (.tmp 16) (.tmp 17) 73 rfl _ _ _ rfl rfl hlook ?_) | (at_mapUpdate; refine wpList_update_run rfl (.tmp 22) (.tmp 23) (.tmp 27) 73 rfl _ _ _ rfl rfl rfl hup ?_) | (at_builtin; refine wpList_append_run rfl (.tmp 24) (.tmp 26) 76 76 rfl _ _ _ _ rfl rfl hap ?_))
        go_roundw
        case rel => exact ⟨q + 1, by omega, by go_num, HM', HB', HK'⟩
        case measure => simp [intOf]; omega
      · obtain ⟨v, hv, hown, _⟩ := hM.out.look hc
        have hlook := hv 0
        obtain ⟨ad', cap', rfl, _⟩ := row_form hown
        obtain ⟨ln, hln⟩ : ∃ ln, ln = (pl f (num f q) q).length := ⟨_, rfl⟩
        rw [← hln] at hlook
        have t8 : (8 : Int) ≤ (ln : Int) := by omega
        have HM' : Hid (Mp wr w2.heap.size w.heap.size (fun x => pl f x (q + 1))) := hM.out.congr (STAY.out q h8)
        clear hown h8 hln hg hc hcell z z2 hM hv STEP STAY M2 L2
        go_wp2_with (first | (at_lookup; refine wpList_lookup_run rfl (.tmp 16) (.tmp 17) 73 rfl _ _ _ rfl rfl hlook ?_))
        go_roundw
        case rel => exact ⟨q + 1, by omega, by go_num, HM', hB, hK⟩
        case measure => simp [intOf]; omega
    · have e : q = n := by omega
      subst e
      go_wp2_with fail
      refine (C2.out _).mono ?_
      rintro e w5 ⟨rfl, B5⟩
      have M5 : Hid (Mp w5 w2.heap.size w.heap.size (fun x => pl f x q)) := hM.out.below (Nat.le_refl _) B5
      have L5 : Hid (Below w.heap.size w w5) := hB.out.trans (B5.mono hB.out.size)
      clear B5 hM hB hK STEP STAY M2 L2 C2 HC
      go_wp2
      go_ret
      refine ⟨_, w2.heap.size, rfl, ?_, L5.out.alloc L5.out.size _⟩
      rw [IXE.out]
      exact ⟨w.heap.size, heap_alloc_new _ _, M5.out.kept (World.grownBy_alloc _ _ none)⟩
end Go.Proofs.Ytdfoejgkjfklcaa.Mt
