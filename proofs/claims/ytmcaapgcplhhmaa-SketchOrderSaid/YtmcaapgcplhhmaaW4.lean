import Derived.Test.YtmcaapgcplhhmaaW3
/- Plus. -/
namespace Go.Proofs.Ytmcaapgcplhhmaa
open Go.RowKit
attribute [local go_sem] run_store_complex
def add2 (g h : Nat → Int) (i : Nat) : Int := g i + h i
def upto (g h : Nat → Int) (k i : Nat) : Value := if i < k then sv (add2 g h) i else sv (sk []) i
theorem four_new (w : World) {A C D : Array Value} {E F : TypeId} {n m p : Nat} {f g e : Nat → Value} (hA : A = arr n f) (hC : C = arr m g) (hD : D = arr p e) (W : World) (hW : W = ((((w.alloc (.cells A E)).alloc (.cells C E)).alloc (.cells D F)).alloc (.cells D F))) :
    Blk W w.heap.size E n f ∧ Blk W (w.heap.size + 1) E m g ∧ Blk W (w.heap.size + 2) F p e ∧ Blk W (w.heap.size + 3) F p e ∧ Below w.heap.size w W := by
  obtain ⟨h1, h2, h3⟩ := two_new w (E := E) (F := E) hA hC
  obtain ⟨k1, k2, k3⟩ := two_new ((w.alloc (.cells A E)).alloc (.cells C E)) (E := F) (F := F) hD hD
  have e : ((w.alloc (.cells A E)).alloc (.cells C E)).heap.size = w.heap.size + 2 := by simp
  rw [e] at k1 k2 k3
  subst hW
  exact ⟨(h1.alloc _).alloc _, (h2.alloc _).alloc _, k1, k2, h3.trans (k3.mono (by omega))⟩
set_option maxHeartbeats 1000000 in
theorem plus_any (g h : Nat → Int) (hg : Ok g) (hh : Ok h) (w : World) :
    Calls Try.prog 22 #[SV g, SV h] w fun e w' => e = .returned (SV (add2 g h)) ∧ Below w.heap.size w w' := by
  unfold SV
  go_enter Try.func22, Try.ntmps22
  go_wp2
  go_loopw [6, 7] (fun _ i wr => ∃ k : Nat, k ≤ 4 ∧ i = .int .i64 k ∧ Hid (Blk wr w.heap.size 28 4 (sv g)) ∧ Hid (Blk wr (w.heap.size + 1) 28 4 (sv h)) ∧ Hid (Blk wr (w.heap.size + 2) 28 4 (sv (sk []))) ∧ Hid (Blk wr (w.heap.size + 3) 28 4 (upto g h k)) ∧ Hid (Below w.heap.size w wr)) (fun _ i _ => 4 - (intOf i).toNat)
  case atStart =>
    obtain ⟨h1, h2, h3, h4, h5⟩ := four_new w (E := 28) (F := 28) (sv_arr g) (sv_arr h) zero_sk _ rfl
    exact ⟨0, by omega, rfl, h1, h2, h3, h4, h5⟩
  case round =>
    obtain ⟨k, hk, rfl, hB0, hB1, hB2, hB3, hL⟩ := hrel
    by_cases hlt : k < 4
    · have zk : (0 : Int) ≤ (k : Int) := by omega
      have yk : (k : Int) < 4 := by omega
      have c1 : wr.cell? ⟨w.heap.size, k, none⟩ = some (.complex .f64 (FB (g (2 * k))) (FB (g (2 * k + 1)))) := hB0.out.cell k hlt
      have c2 : wr.cell? ⟨w.heap.size + 1, k, none⟩ = some (.complex .f64 (FB (h (2 * k))) (FB (h (2 * k + 1)))) := hB1.out.cell k hlt
      have c3 : wr.cell? ⟨w.heap.size + 3, k, none⟩ = some (upto g h k k) := hB3.out.cell k hlt
      have f3 : wr.frozen? ⟨w.heap.size + 3, k, none⟩ = false := hB3.out.frozen k
      have l1 := hg (2 * k)
      have l2 := hg (2 * k + 1)
      have l3 := hh (2 * k)
      have l4 := hh (2 * k + 1)
      have ca := cadd_run (g (2 * k)) (g (2 * k + 1)) (h (2 * k)) (h (2 * k + 1)) (by omega) (by omega) (by omega) (by omega)
      have HV : Hid (∀ i, (if i = k then Value.complex .f64 (FB (g (2 * k) + h (2 * k))) (FB (g (2 * k + 1) + h (2 * k + 1))) else upto g h k i) = upto g h (k + 1) i) := fun i => by
        unfold upto
        by_cases c : i = k
        · subst c
          rw [if_pos rfl, if_pos (by omega)]
          rfl
        · rw [if_neg c]
          by_cases c2 : i < k
          · rw [if_pos c2, if_pos (by omega)]
          · rw [if_neg c2, if_neg (by omega)]
      clear l1 l2 l3 l4
      generalize FB (g (2 * k) + h (2 * k)) = d1 at *
      generalize FB (g (2 * k + 1) + h (2 * k + 1)) = d2 at *
      go_wp2
      go_region
      clear c1 c2 c3 ca f3
      have H0 := Lib.hid ((hB0.out.setOther ⟨w.heap.size + 3, k, none⟩ (.complex .f64 d1 d2) (by show w.heap.size + 3 ≠ _; omega)).drew)
      have H1 := Lib.hid ((hB1.out.setOther ⟨w.heap.size + 3, k, none⟩ (.complex .f64 d1 d2) (by show w.heap.size + 3 ≠ _; omega)).drew)
      have H2 := Lib.hid ((hB2.out.setOther ⟨w.heap.size + 3, k, none⟩ (.complex .f64 d1 d2) (by show w.heap.size + 3 ≠ _; omega)).drew)
      have H3 := Lib.hid (((hB3.out.set k (.complex .f64 d1 d2)).congr (fun i _ => HV.out i)).drew)
      have H4 := Lib.hid ((hL.out.setCell (p := ⟨w.heap.size + 3, k, none⟩) (by show w.heap.size ≤ w.heap.size + 3; omega) (.complex .f64 d1 d2)).drew)
      clear hB0 hB1 hB2 hB3 hL HV
      generalize (wr.setCell ⟨w.heap.size + 3, k, none⟩ (.complex .f64 d1 d2)).drew = w5 at H0 H1 H2 H3 H4 ⊢
      go_wp2
      go_roundw
      case rel => exact ⟨k + 1, by omega, by go_num, H0, H1, H2, H3, H4⟩
      case measure => simp [intOf]; omega
    · have e : k = 4 := by omega
      subst e
      have hS : Blk wr (w.heap.size + 3) 28 4 (sv (add2 g h)) := hB3.out.congr fun i hi => by unfold upto; rw [if_pos hi]
      go_wp2_with (first | (refine wpList_load_blk rfl 28 (.tmp 5) rfl (w.heap.size + 3) rfl 28 4 (sv (add2 g h)) hS _ ty28 rfl sz28 ?_) | (refine wpList_store_blk rfl 28 (.tmp 4) (.tmp 20) rfl (w.heap.size + 2) 4 (sv (add2 g h)) (sv (sk [])) rfl rfl 28 hB2.out sz28 (fun _ _ => rfl) ?_))
      exact bodyPost_ret (v := SV (add2 g h)) (results_blk rfl _ _ (w.heap.size + 2) 28 4 _ (hB2.out.setRow _) _ rfl ty28 rfl sz28) rfl ⟨rfl, below_setRow hL.out (by omega) _⟩
end Go.Proofs.Ytmcaapgcplhhmaa
