import Derived.Test.YthjeinedplbnmaaDoorRows
import Derived.Test.YthjeinedplbnmaaDoorPa
import Derived.Test.YthjeinedplbnmaaDoorPc
import Derived.Test.YthjeinedplbnmaaDoorPs
import Derived.ProofKit
import Derived.LaidMore
import Derived.OpenShut
import Derived.Stop.Joined
import Derived.Lib.LaidTab
import Derived.SliceStrings
namespace Go.Proofs.YthjeinedplbnmaaDoor
open Go.ChangeShapes Go.WideShapes Go.ChangeAt Go.RowKit
open Go.ChangeMaps (open_string shut_string)
theorem Tryd.own : ownKnob Tryd.prog.godebug = none := by kernel_rfl
theorem Tryd.laidOut : laidOutB Tryd.prog = true := by kernel_rfl
abbrev laidK : List (String × DataW Unit) := [("sediment/crc.halfBytes", Rows.laid_sediment_crc_halfBytes)]
theorem gHalf : Tryd.prog.globalNamed "sediment/crc.halfBytes" = some 0 := by kernel_rfl
theorem tHalf : (Tryd.prog.globals[0]?).map (·.type) = some 46 := by kernel_rfl
theorem door_met (os : Os) (args : Array Value) : laidMetH Tryd.prog laidK ((World.doorLaid Tryd.prog 14 os).forCall (fun _ _ => 0) ⟨#[], args, []⟩).memory :=
  laidMetH_of_parts3 (fuel := 8) (laidMet_of_run' 8 (by kernel_rfl) (by kernel_rfl)) (by kernel_rfl) (by kernel_rfl)
def hz : List Int := [0, 498536548, 997073096, 651767980, 1994146192, 1802195444, 1303535960, 1342533948, 3988292384, 4027552580, 3604390888, 3412177804, 2607071920, 2262029012, 2685067896, 3183342108]
theorem hz_hb : ∀ i, i < 16 → hz.getD i 0 = U (hb i) := by decide +kernel
theorem of_laid {W : World} (h : laidMetH Tryd.prog laidK W) : ∀ i, i < 16 → W.cell? ⟨0, i, none⟩ = some (wv hb i) := by
  rw [MakeChecks.laidMetH_plain _ _ _ (by kernel_rfl)] at h
  have ht : Lib.TabIs Tryd.prog W "sediment/crc.halfBytes" .u32 hz :=
    Lib.tabIs_of_head (rest := []) (g := 0) (t := 46) (e := 23) (n := 16) gHalf tHalf Tryd.underlying46 Tryd.underlying23 (by kernel_rfl) (by kernel_rfl) h
  intro i hi
  rw [ht.cell gHalf i (by show i < 16; exact hi), hz_hb i hi]
  rfl
theorem c9 : Tryd.prog.cellsOf 9 = 1 := by kernel_rfl
theorem open_strs {H : Type} {enc : TypeId × Value → H} {W : World} {r : Reach} {b0 base : Nat} {held : Bool} {v : Value} {d : DataW H} {ps : List MemPlace}
    (hval : Value.okWide Tryd.prog W r b0 22 v) (hd : DataW.Trod enc Tryd.prog W base (fun _ => true) held 22 v d ps) : ∃ (ss : Nat → ByteArray) (len : Nat), len ≤ maxLen ∧ Strs W v ss len := by
  obtain ⟨a0, len, cap, rfl⟩ := okWide_slice Tryd.underlying22 hval
  obtain ⟨fuel, hf⟩ := hd
  rcases open_strings Tryd.underlying22 Tryd.underlying9 c9 hf with ⟨hcs, -⟩ | ⟨a, len', cap', ss, hcs, -, hl, hm, hz, -, hcell, -⟩
  · simp [Value.cells] at hcs
    obtain ⟨rfl, rfl, rfl⟩ := hcs
    exact ⟨fun _ => ByteArray.empty, 0, Nat.zero_le _, Or.inl ⟨none, 0, rfl, rfl⟩⟩
  · simp [Value.cells] at hcs
    obtain ⟨rfl, rfl, rfl⟩ := hcs
    simp only [if_true] at hz
    refine ⟨fun i => ss.getD i ByteArray.empty, len, Nat.le_trans hl hm, ?_⟩
    by_cases hl0 : len = 0
    · subst hl0
      exact Or.inl ⟨some a, cap, rfl, rfl⟩
    · obtain ⟨b, off, spot⟩ := a
      have hspot : spot = none := by simpa [Addr.add] using World.cell?_spot (hcell 0 (by omega))
      subst hspot
      have hc : ∀ i, i < len → W.cell? ⟨b, off + i, none⟩ = some (.string (ss.getD i ByteArray.empty)) := fun i hi => by
        rw [← Addr.add_mid]; exact hcell i (by omega)
      exact Or.inr ⟨b, off, cap, rfl, by omega, block_lt_of_cell (hc 0 (by omega)), hc⟩
/- a u32 as a word -/
theorem wf_u32 {n : Int} (h : (Lit.int .u32 n).wf = true) : 0 ≤ n ∧ n < 4294967296 := by
  simp [Lit.wf, IntKind.min, IntKind.max, IntKind.signed, IntKind.bits] at h
  omega
theorem wf_i64 {n : Int} (h : (Lit.int .i64 n).wf = true) : -9223372036854775808 ≤ n ∧ n ≤ 9223372036854775807 := by
  simp [Lit.wf, IntKind.min, IntKind.max, IntKind.signed, IntKind.bits] at h
  omega
theorem as_word {n : Int} (h : (Lit.int .u32 n).wf = true) : ∃ x : W32, n = U x := by
  obtain ⟨a, b⟩ := wf_u32 h
  refine ⟨BitVec.ofNat 32 n.toNat, ?_⟩
  unfold U
  rw [BitVec.toNat_ofNat]
  omega
end Go.Proofs.YthjeinedplbnmaaDoor
