import Derived.Test.YtmcaapgcplhhmaaW2
import Derived.BigQuiet
import Derived.Deep.QuietTactic
/- Far, and Plus. -/
namespace Go.Proofs.Ytmcaapgcplhhmaa
open Go.RowKit
attribute [local go_sem] run_store_complex
theorem fadd_run (a b : Int) (ha : 0 ≤ a ∧ a < 4503599627370496) (hb : 0 ≤ b ∧ b < 4503599627370496) (w : World) :
    (binOp .add 51 (.float .f64 (FB a)) (.float .f64 (FB b))).run Try.prog w = .ok (.float .f64 (FB (a + b))) w := by
  exact run_float_arith w .add 51 .f64 _ _ _ (add_FB a b ha.1 ha.2 hb.1 hb.2)
theorem two_new (w : World) {A C : Array Value} {E F : TypeId} {n m : Nat} {f g : Nat → Value} (hA : A = arr n f) (hC : C = arr m g) :
    Blk ((w.alloc (.cells A E)).alloc (.cells C F)) w.heap.size E n f ∧ Blk ((w.alloc (.cells A E)).alloc (.cells C F)) (w.heap.size + 1) F m g ∧ Below w.heap.size w ((w.alloc (.cells A E)).alloc (.cells C F)) := by
  refine ⟨(Blk.new w A E n f hA).alloc _, ?_, ((Below.refl _ _).alloc (Nat.le_refl _) _).alloc (by simp) _⟩
  have h := Blk.new (w.alloc (.cells A E)) C F m g hC
  have e : (w.alloc (.cells A E)).heap.size = w.heap.size + 1 := by simp
  rw [e] at h
  exact h
theorem farN_two (g h : Nat → Int) (k : Nat) : ((farN g h (2 * k) : Nat) : Int) + (((g (2 * k) - h (2 * k)).natAbs : Int) + ((g (2 * k + 1) - h (2 * k + 1)).natAbs : Int)) = ((farN g h (2 * (k + 1)) : Nat) : Int) := by
  have e : farN g h (2 * (k + 1)) = farN g h (2 * k) + (g (2 * k) - h (2 * k)).natAbs + (g (2 * k + 1) - h (2 * k + 1)).natAbs := rfl
  rw [e]
  omega
set_option maxHeartbeats 1000000 in
theorem far_any (g h : Nat → Int) (hg : Ok g) (hh : Ok h) (w : World) :
    Calls Try.prog 15 #[SV g, SV h] w fun e w' => e = .returned (.int .i64 (far g h : Int)) ∧ Below w.heap.size w w' := by
  unfold SV
  go_enter Try.func15, Try.ntmps15
  go_wp2
  go_loopw [5, 6, 7, 8] (fun f _ _ i wr => ∃ k : Nat, k ≤ 4 ∧ i = .int .i64 k ∧ f = .float .f64 (FB (farN g h (2 * k) : Nat)) ∧ Hid (Blk wr w.heap.size 28 4 (sv g)) ∧ Hid (Blk wr (w.heap.size + 1) 28 4 (sv h)) ∧ Hid (Below w.heap.size w wr)) (fun _ _ _ i _ => 4 - (intOf i).toNat)
  case atStart =>
    obtain ⟨h1, h2, h3⟩ := two_new w (E := 28) (F := 28) (sv_arr g) (sv_arr h)
    exact ⟨0, by omega, rfl, by rw [show ((farN g h (2 * 0) : Nat) : Int) = 0 from rfl, FB_0], h1, h2, h3⟩
  case round =>
    obtain ⟨k, hk, rfl, rfl, hB0, hB1, hL⟩ := hrel
    by_cases hlt : k < 4
    · have zk : (0 : Int) ≤ (k : Int) := by omega
      have yk : (k : Int) < 4 := by omega
      have c1 : wr.cell? ⟨w.heap.size, k, none⟩ = some (.complex .f64 (FB (g (2 * k))) (FB (g (2 * k + 1)))) := hB0.out.cell k hlt
      have c2 : wr.cell? ⟨w.heap.size + 1, k, none⟩ = some (.complex .f64 (FB (h (2 * k))) (FB (h (2 * k + 1)))) := hB1.out.cell k hlt
      have l1 := hg (2 * k)
      have l2 := hg (2 * k + 1)
      have l3 := hh (2 * k)
      have l4 := hh (2 * k + 1)
      have l5 := farN_le hg hh (2 * k)
      have HF := Lib.hid (farN_two g h k)
      have cs := csub_run (g (2 * k)) (g (2 * k + 1)) (h (2 * k)) (h (2 * k + 1)) (by omega) (by omega) (by omega) (by omega)
      have A1 := fun w => abs_any (g (2 * k) - h (2 * k)) (by omega) w
      have A2 := fun w => abs_any (g (2 * k + 1) - h (2 * k + 1)) (by omega) w
      have r1 := fadd_run ((g (2 * k) - h (2 * k)).natAbs : Int) ((g (2 * k + 1) - h (2 * k + 1)).natAbs : Int) (by omega) (by omega)
      have r2 := fadd_run (farN g h (2 * k) : Nat) (((g (2 * k) - h (2 * k)).natAbs : Int) + ((g (2 * k + 1) - h (2 * k + 1)).natAbs : Int)) (by omega) (by omega)
      rw [HF.out] at r2
      clear l1 l2 l3 l4 l5 HF
      have HA1 := Lib.hid A1
      have HA2 := Lib.hid A2
      clear A1 A2
      generalize FB (g (2 * k) - h (2 * k)) = d1 at *
      generalize FB (g (2 * k + 1) - h (2 * k + 1)) = d2 at *
      generalize FB ((g (2 * k) - h (2 * k)).natAbs : Int) = a1 at *
      generalize FB ((g (2 * k + 1) - h (2 * k + 1)).natAbs : Int) = a2 at *
      generalize FB (((g (2 * k) - h (2 * k)).natAbs : Int) + ((g (2 * k + 1) - h (2 * k + 1)).natAbs : Int)) = a3 at *
      go_wp2
      go_region
      clear c1 c2 cs
      have H0 := Lib.hid hB0.out.drew
      have H1 := Lib.hid hB1.out.drew
      have H2 := Lib.hid hL.out.drew
      clear hB0 hB1 hL
      generalize wr.drew = w5 at H0 H1 H2 ⊢
      go_wp2_with fail
      refine (HA1.out _).mono ?_
      rintro e w' ⟨rfl, rfl⟩
      go_wp2_with fail
      refine (HA2.out _).mono ?_
      rintro e w' ⟨rfl, rfl⟩
      go_wp2
      go_roundw
      case rel => exact ⟨k + 1, by omega, by go_num, rfl, H0, H1, H2⟩
      case measure => simp [intOf]; omega
    · have e : k = 4 := by omega
      subst e
      have l5 := far_le hg hh
      have e5 : (farN g h (2 * 4) : Nat) = far g h := rfl
      rw [e5]
      have e1 := toInt_FB (far g h : Int) (by omega)
      have c1 := fun w => run_convert_float_int (P := Try.prog) w 51 3 .f64 .i64 (FB (far g h : Int)) (far g h : Int) (by kernel_rfl) (by kernel_rfl) e1
      clear e1 e5
      go_wp2
      go_ret
      exact ⟨rfl, hL.out⟩
end Go.Proofs.Ytmcaapgcplhhmaa
