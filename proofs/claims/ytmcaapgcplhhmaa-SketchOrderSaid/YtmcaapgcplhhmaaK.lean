import Derived.Test.YtmcaapgcplhhmaaRows
import Derived.Test.YtmcaapgcplhhmaaT
import Derived.ProofKit
import Derived.OpenShut
import Derived.SliceStrings
/- What the rows share: an argument of texts, opened. -/
namespace Go.Proofs.Ytmcaapgcplhhmaa
open Go.ChangeShapes Go.WideShapes Go.ChangeAt Go.RowKit
open Go.ChangeMaps (open_string shut_string)
theorem Try.own : ownKnob Try.prog.godebug = none := by kernel_rfl
theorem Try.laidOut : laidOutB Try.prog = true := by kernel_rfl
theorem c9 : Try.prog.cellsOf 9 = 1 := by kernel_rfl
theorem open_strs {H : Type} {enc : TypeId × Value → H} {W : World} {r : Reach} {b0 base : Nat} {held : Bool} {v : Value} {d : DataW H} {ps : List MemPlace}
    (hval : Value.okWide Try.prog W r b0 22 v) (hd : DataW.Trod enc Try.prog W base (fun _ => true) held 22 v d ps) : ∃ (ss : Nat → ByteArray) (len : Nat), len ≤ maxLen ∧ Strs W v ss len := by
  obtain ⟨a0, len, cap, rfl⟩ := okWide_slice Try.underlying22 hval
  obtain ⟨fuel, hf⟩ := hd
  rcases open_strings Try.underlying22 Try.underlying9 c9 hf with ⟨hcs, -⟩ | ⟨a, len', cap', ss, hcs, -, hl, hm, hz, -, hcell, -⟩
  · simp [Value.cells] at hcs
    obtain ⟨rfl, rfl, rfl⟩ := hcs
    exact ⟨fun _ => ByteArray.empty, 0, Nat.zero_le _, Or.inl ⟨none, 0, rfl, rfl⟩⟩
  · simp [Value.cells] at hcs
    obtain ⟨rfl, rfl, rfl⟩ := hcs
    simp only [if_true] at hz
    refine ⟨fun i => ss.getD i ByteArray.empty, len, Nat.le_trans hl hm, ?_⟩
    by_cases hl0 : len = 0
    · subst hl0
      exact Or.inl ⟨some a, cap, rfl, rfl⟩
    · obtain ⟨b, off, spot⟩ := a
      have hspot : spot = none := by simpa [Addr.add] using World.cell?_spot (hcell 0 (by omega))
      subst hspot
      have hc : ∀ i, i < len → W.cell? ⟨b, off + i, none⟩ = some (.string (ss.getD i ByteArray.empty)) := fun i hi => by
        rw [← Addr.add_mid]; exact hcell i (by omega)
      exact Or.inr ⟨b, off, cap, rfl, by omega, block_lt_of_cell (hc 0 (by omega)), hc⟩
end Go.Proofs.Ytmcaapgcplhhmaa
