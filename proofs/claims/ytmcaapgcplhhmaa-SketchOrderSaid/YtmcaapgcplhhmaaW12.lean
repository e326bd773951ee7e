import Derived.Test.YtmcaapgcplhhmaaW11
/- SameInts. -/
namespace Go.Proofs.Ytmcaapgcplhhmaa
open Go.RowKit
set_option maxHeartbeats 1000000 in
theorem ints_any (p : Nat → Nat) (u v : Value) (n : Nat) (w : World) (hn : n ≤ 1000000) (hu : Row w u 1 (inc p) n) (hv : Row w v 1 (inc p) n) :
    Calls Try.prog 19 #[u, v] w fun e w' => e = .returned (.bool true) ∧ Below w.heap.size w w' := by
  obtain ⟨a1, c1, rfl, h1⟩ := row_addr hu
  obtain ⟨a2, c2, rfl, h2⟩ := row_addr hv
  have H1 := Lib.hid h1
  have H2 := Lib.hid h2
  clear hu hv h1 h2
  go_enter Try.func19, Try.ntmps19
  go_wp2
  go_loopw [5] (fun i wr => ∃ k : Nat, k ≤ n ∧ i = .int .i64 k ∧ Hid (Below w.heap.size w wr)) (fun i _ => n - (intOf i).toNat)
  case atStart => exact ⟨0, by omega, rfl, Below.refl _ _⟩
  case round =>
    obtain ⟨k, hk, rfl, hL⟩ := hrel
    by_cases hlt : k < n
    · obtain ⟨b1, o1, rfl, hb1, hc1⟩ := H1.out (by omega)
      obtain ⟨b2, o2, rfl, hb2, hc2⟩ := H2.out (by omega)
      have d1 : wr.cell? ⟨b1, o1 + k, none⟩ = some (.int .i64 (p k : Int)) := by rw [hL.out.cell hb1]; exact hc1 k (by omega)
      have d2 : wr.cell? ⟨b2, o2 + k, none⟩ = some (.int .i64 (p k : Int)) := by rw [hL.out.cell hb2]; exact hc2 k (by omega)
      clear hc1 hc2 hb1 hb2 H1 H2
      have zk : (0 : Int) ≤ (k : Int) := by omega
      have yk : (k : Int) < (n : Int) := by omega
      generalize (p k : Int) = x at d1 d2
      go_wp2
      go_region
      have HL := Lib.hid hL.out.drew
      clear d1 d2 hL
      generalize wr.drew = w5 at HL ⊢
      go_wp2
      go_roundw
      case rel => exact ⟨k + 1, by omega, by go_num, HL⟩
      case measure => simp [intOf]; omega
    · have e : k = n := by omega
      subst e
      have yk : (k : Int) ≤ (k : Int) := by omega
      go_wp2
      go_ret
      exact ⟨rfl, hL.out⟩
end Go.Proofs.Ytmcaapgcplhhmaa
