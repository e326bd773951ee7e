import Derived.Test.YtekeaoolodmdaaaEE
import Derived.Test.YtekeaoolodmdaaaEF
/- What every right program answers; a text is what its pieces make of its base. -/
namespace Go.Proofs.Ytekeaoolodmdaaa
set_option maxRecDepth 100000
open Go.RowKit
def AB : List UInt8 := [48, 49, 50, 51, 52, 53, 54, 55, 56, 57, 97, 98, 99, 100, 101, 102]
def AX : List UInt8 := [120, 48, 49, 50, 51, 52, 53, 54, 55, 56, 57, 97, 98, 99, 100, 101, 102]
def AL : List Pz := [⟨0, 0, [120]⟩, ⟨0, 16, []⟩]
theorem AF0 : F AB AX 0 = (0, 0) := by decide +kernel
theorem AF1 : F AB AX 1 = (0, 16) := by decide +kernel
theorem made_AL : made AB AX = AL := by
  unfold made
  rw [mk_none (by decide) (by rw [AF0]), mk_copy (by decide) (by rw [AF1]; decide), AF1, mk_end (by decide)]
  rfl
theorem made_good {B s : List UInt8} (hB : B.length ≤ 4099) (hs : s.length ≤ 4099) : (∀ x ∈ made B s, good B.length x) ∧ tzs B (made B s) = s ∧ szs (made B s) = s.length := by
  obtain ⟨h1, h2⟩ := mk_good (F_ok B s) hB hs s.length 0 0 (by omega) (Nat.le_refl _) (Nat.zero_le _)
  rw [List.drop_zero] at h2
  refine ⟨h1, h2, ?_⟩
  have h3 := tzs_len h1 rfl
  rw [h2] at h3
  exact h3.symm
theorem aRes_back {B : List UInt8} {l : List Pz} (hb : B.length ≤ 4099) (hg : ∀ x ∈ l, good B.length x) (hs : szs l ≤ 4099) : aRes B (dBytes B.length l) = (tzs B l, 0) := by
  unfold aRes
  rw [dRead_back hb hg hs]
  dsimp only
  rw [if_pos rfl]
theorem AL_good : ∀ x ∈ AL, good 16 x := by
  intro x hx
  simp only [AL, List.mem_cons, List.not_mem_nil, or_false] at hx
  rcases hx with rfl | rfl
  · unfold good; rw [if_pos ⟨rfl, rfl⟩]; decide
  · unfold good; rw [if_neg (by intro h; have := h.2; simp at this)]; decide
theorem AL_bytes : dBytes 16 AL = [16, 17, 2, 120, 33, 0] := by
  have e1 : sz ⟨0, 0, [120]⟩ = 1 := rfl
  have e2 : sz ⟨0, 16, []⟩ = 16 := rfl
  have e3 : wz ⟨0, 0, [120]⟩ = dg 2 ++ [120] := rfl
  have e4 : wz ⟨0, 16, []⟩ = dg 33 ++ dg 0 := rfl
  simp only [dBytes, AL, szs, wzs, List.map_cons, List.map_nil, List.flatMap_cons, List.flatMap_nil, e1, e2, e3, e4, List.sum_cons, List.sum_nil]
  rw [dg_low (by decide : 16 < 128), dg_low (by decide : 1 + (16 + 0) < 128), dg_low (by decide : 2 < 128), dg_low (by decide : 33 < 128), dg_low (by decide : 0 < 128)]
  decide
theorem AL_text : tzs AB AL = AX := by decide +kernel
theorem AL_size : szs AL = 17 := by decide +kernel
end Go.Proofs.Ytekeaoolodmdaaa
