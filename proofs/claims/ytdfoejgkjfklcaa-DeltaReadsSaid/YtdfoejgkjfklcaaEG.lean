import Derived.Test.YtdfoejgkjfklcaaEE
import Derived.Test.YtdfoejgkjfklcaaEF
/- What every right program answers; a text is what its pieces make of its base. -/
namespace Go.Proofs.Ytdfoejgkjfklcaa
set_option maxRecDepth 100000
open Go.RowKit
def AB : List UInt8 := [48, 49, 50, 51, 52, 53, 54, 55, 56, 57, 97, 98, 99, 100, 101, 102]
def AX : List UInt8 := [120, 48, 49, 50, 51, 52, 53, 54, 55, 56, 57, 97, 98, 99, 100, 101, 102]
def AL : List Pz := [⟨0, 0, [120]⟩, ⟨0, 16, []⟩]
theorem AF0 : F AB AX 0 = (0, 0) := by decide +kernel
theorem AF1 : F AB AX 1 = (0, 16) := by decide +kernel
theorem made_AL : made AB AX = AL := by
  unfold made
  rw [mk_none (by decide) (by rw [AF0]), mk_copy (by decide) (by rw [AF1]; decide), AF1, mk_end (by decide)]
  rfl
theorem made_good {B s : List UInt8} (hB : B.length ≤ 4099) (hs : s.length ≤ 4099) : (∀ x ∈ made B s, good B.length x) ∧ tzs B (made B s) = s ∧ szs (made B s) = s.length := by
  obtain ⟨h1, h2⟩ := mk_good (F_ok B s) hB hs s.length 0 0 (by omega) (Nat.le_refl _) (Nat.zero_le _)
  rw [List.drop_zero] at h2
  refine ⟨h1, h2, ?_⟩
  have h3 := tzs_len h1 rfl
  rw [h2] at h3
  exact h3.symm
theorem aRes_back {B : List UInt8} {l : List Pz} (hb : B.length ≤ 4099) (hg : ∀ x ∈ l, good B.length x) (hs : szs l ≤ 4099) : aRes B (dBytes B.length l) = (tzs B l, 0) := by
  unfold aRes
  rw [dRead_back hb hg hs]
  dsimp only
  rw [if_pos rfl]
theorem AL_good : ∀ x ∈ AL, good 16 x := by
  intro x hx
  simp only [AL, List.mem_cons, List.not_mem_nil, or_false] at hx
  rcases hx with rfl | rfl
  · unfold good; rw [if_pos ⟨rfl, rfl⟩]; decide
  · unfold good; rw [if_neg (by intro h; have := h.2; simp at this)]; decide
theorem AL_bytes : dBytes 16 AL = [16, 17, 2, 120, 33, 0] := by
  have e1 : sz ⟨0, 0, [120]⟩ = 1 := rfl
  have e2 : sz ⟨0, 16, []⟩ = 16 := rfl
  have e3 : wz ⟨0, 0, [120]⟩ = dg 2 ++ [120] := rfl
  have e4 : wz ⟨0, 16, []⟩ = dg 33 ++ dg 0 := rfl
  simp only [dBytes, AL, szs, wzs, List.map_cons, List.map_nil, List.flatMap_cons, List.flatMap_nil, e1, e2, e3, e4, List.sum_cons, List.sum_nil]
  rw [dg_low (by decide : 16 < 128), dg_low (by decide : 1 + (16 + 0) < 128), dg_low (by decide : 2 < 128), dg_low (by decide : 33 < 128), dg_low (by decide : 0 < 128)]
  decide
theorem AL_text : tzs AB AL = AX := by decide +kernel
theorem AL_size : szs AL = 17 := by decide +kernel
set_option maxHeartbeats 1000000 in
theorem alive_any (w : World) : Calls Try.prog 6 #[] w fun e w' => e = .returned (.bool true) ∧ Below w.heap.size w w' := by
  have M1 : Hid (∀ W, Calls Try.prog 7 #[.string ⟨#[48, 49, 50, 51, 52, 53, 54, 55, 56, 57, 97, 98, 99, 100, 101, 102]⟩, .string ⟨#[120, 48, 49, 50, 51, 52, 53, 54, 55, 56, 57, 97, 98, 99, 100, 101, 102]⟩] W fun e w' => ∃ ad cap, e = .returned (.slice ad 2 cap) ∧ RowZ w' (.slice ad 2 cap) AL ∧ Below W.heap.size W w') := fun W => by
    refine (make_any AB AX W (by decide) (by decide)).mono ?_
    rintro e w' ⟨v, rfl, hO, hB⟩
    rw [made_AL] at hO
    have hR := hO.row
    obtain ⟨ad, cap, rfl, -⟩ := hR.cells
    exact ⟨ad, cap, rfl, hR, hB⟩
  have W1 : Hid (∀ W v, RowZ W v AL → Calls Try.prog 15 #[.int .i64 16, v] W fun e w' => e = .returned (.tuple #[.string ⟨#[16, 17, 2, 120, 33, 0]⟩, .int .i64 0]) ∧ Below W.heap.size W w') := fun W v h => by
    have := write_any 16 AL v W (by decide) h AL_good (fun x hx => good_small (by decide) (AL_good x hx)) (by rw [AL_size]; decide)
    rw [AL_bytes] at this
    exact this
  have A1 : Hid (∀ W, Calls Try.prog 12 #[.string ⟨#[48, 49, 50, 51, 52, 53, 54, 55, 56, 57, 97, 98, 99, 100, 101, 102]⟩, .string ⟨#[16, 17, 2, 120, 33, 0]⟩] W fun e w' => e = .returned (.tuple #[.string ⟨#[120, 48, 49, 50, 51, 52, 53, 54, 55, 56, 57, 97, 98, 99, 100, 101, 102]⟩, .int .i64 0]) ∧ Below W.heap.size W w') := fun W => by
    have := apply_any AB [16, 17, 2, 120, 33, 0] W (by decide) (by decide)
    have e : aRes AB [16, 17, 2, 120, 33, 0] = (AX, 0) := by
      have h := aRes_back (B := AB) (l := AL) (by decide) AL_good (by rw [AL_size]; decide)
      rw [show AB.length = 16 from rfl, AL_bytes, AL_text] at h
      exact h
    rw [e] at this
    exact this
  have hcat : (⟨#[120]⟩ : ByteArray) ++ ⟨#[48, 49, 50, 51, 52, 53, 54, 55, 56, 57, 97, 98, 99, 100, 101, 102]⟩ = ⟨#[120, 48, 49, 50, 51, 52, 53, 54, 55, 56, 57, 97, 98, 99, 100, 101, 102]⟩ := by rw [ByteArray.mk_append_mk]; rfl
  go_enter Try.func6, Try.ntmps6
  go_wp2_with fail
  refine (M1.out _).mono ?_
  rintro e w1 ⟨ad, cap, rfl, R1, B1⟩
  have HR := Lib.hid R1
  have L1 := Lib.hid B1
  clear R1 B1 M1
  go_wp2_with fail
  refine (W1.out _ _ HR.out).mono ?_
  rintro e w2 ⟨rfl, B2⟩
  have L2 := Lib.hid (L1.out.trans (B2.mono L1.out.size))
  clear B2 W1 HR
  go_wp2_with fail
  refine (A1.out _).mono ?_
  rintro e w3 ⟨rfl, B3⟩
  have L3 := Lib.hid (L2.out.trans (B3.mono L2.out.size))
  clear B3 A1
  go_wp2
  go_ret
  exact ⟨rfl, L3.out⟩
theorem back_long (B s : ByteArray) (w : World) (h : 4099 < B.size ∨ 4099 < s.size) : Calls Try.prog 5 #[.string B, .string s] w fun e w' => e = .returned (.bool true) ∧ Below w.heap.size w w' := by
  have C1 : Hid (∀ W, _) := Lib.hid alive_any
  by_cases h1 : 4099 < B.size
  · have t1 : (4099 : Int) < (B.size : Int) := by omega
    clear h h1
    go_enter Try.func5, Try.ntmps5
    go_wp2_with fail
    refine (C1.out _).mono ?_
    rintro e w1 ⟨rfl, B1⟩
    have L1 := Lib.hid B1
    clear B1
    go_wp2_with fail
    refine (C1.out _).mono ?_
    rintro e w2 ⟨rfl, B2⟩
    have L2 := Lib.hid (L1.out.trans (B2.mono L1.out.size))
    clear B2
    go_wp2
    go_ret
    exact ⟨rfl, L2.out⟩
  · have t1 : (B.size : Int) ≤ 4099 := by omega
    have t2 : (4099 : Int) < (s.size : Int) := by omega
    clear h h1
    go_enter Try.func5, Try.ntmps5
    go_wp2_with fail
    refine (C1.out _).mono ?_
    rintro e w1 ⟨rfl, B1⟩
    have L1 := Lib.hid B1
    clear B1
    go_wp2_with fail
    refine (C1.out _).mono ?_
    rintro e w2 ⟨rfl, B2⟩
    have L2 := Lib.hid (L1.out.trans (B2.mono L1.out.size))
    clear B2
    go_wp2
    go_ret
    exact ⟨rfl, L2.out⟩
set_option maxHeartbeats 1000000 in
theorem back_short (B s : List UInt8) (w : World) (hB : B.length ≤ 4099) (hs : s.length ≤ 4099) : Calls Try.prog 5 #[.string (bs B), .string (bs s)] w fun e w' => e = .returned (.bool true) ∧ Below w.heap.size w w' := by
  obtain ⟨hg, ht, hz⟩ := made_good hB hs
  have C1 : Hid (∀ W, _) := Lib.hid alive_any
  have zB := bs_size B
  have zs := bs_size s
  have D1 : Hid (∀ W, _) := Lib.hid (fun W => make_any B s W hB hs)
  have D2 : Hid (∀ W v, RowZ W v (made B s) → Calls Try.prog 14 #[.string (bs B), v] W fun e w' => e = .returned (.tuple #[.string (bs s), .int .i64 0]) ∧ Below W.heap.size W w') := fun W v h => by
    have := text_any B (made B s) v W hB h hg (fun x hx => good_small hB (hg x hx)) (by omega)
    rw [ht] at this
    exact this
  have D3 : Hid (∀ W v, RowZ W v (made B s) → Calls Try.prog 15 #[.int .i64 ((bs B).size : Int), v] W fun e w' => e = .returned (.tuple #[.string (bs (dBytes B.length (made B s))), .int .i64 0]) ∧ Below W.heap.size W w') := fun W v h => by
    rw [zB]
    exact write_any B.length (made B s) v W hB h hg (fun x hx => good_small hB (hg x hx)) (by omega)
  have hd : (dBytes B.length (made B s)).length ≤ 1000000000 := by
    have h1 := wzs_len hB hg
    have h2 := szs_ge hg
    have h3 := dg_le B.length 0 (by omega) (by omega)
    have h4 := dg_le (szs (made B s)) 0 (by omega) (by omega)
    have h5 : (made B s).length * 4105 ≤ 4099 * 4105 := Nat.mul_le_mul_right _ (by omega)
    unfold dBytes
    rw [List.length_append, List.length_append]
    omega
  have D4 : Hid (∀ W, Calls Try.prog 12 #[.string (bs B), .string (bs (dBytes B.length (made B s)))] W fun e w' => e = .returned (.tuple #[.string (bs s), .int .i64 0]) ∧ Below W.heap.size W w') := fun W => by
    have := apply_any B (dBytes B.length (made B s)) W (by omega) hd
    rw [aRes_back hB hg (by omega), ht] at this
    exact this
  have t1 : ((bs B).size : Int) ≤ 4099 := by omega
  have t2 : ((bs s).size : Int) ≤ 4099 := by omega
  generalize bs B = sB at *
  generalize bs s = sS at *
  generalize bs (dBytes B.length (made B s)) = sD at *
  clear hg ht hz zB zs hd hB hs
  go_enter Try.func5, Try.ntmps5
  go_wp2_with fail
  refine (C1.out _).mono ?_
  rintro e w1 ⟨rfl, B1⟩
  have L1 := Lib.hid B1
  clear B1
  go_wp2_with fail
  refine (D1.out _).mono ?_
  rintro e w2 ⟨v, rfl, O2, B2⟩
  have R2 : Hid (RowZ w2 v (made B s)) := O2.row
  have L2 := Lib.hid (L1.out.trans (B2.mono L1.out.size))
  clear B2 O2 D1
  go_wp2_with fail
  refine (D2.out _ _ R2.out).mono ?_
  rintro e w3 ⟨rfl, B3⟩
  have R3 : Hid (RowZ w3 v (made B s)) := R2.out.below B3
  have L3 := Lib.hid (L2.out.trans (B3.mono L2.out.size))
  clear B3 D2 R2
  go_wp2_with fail
  refine (D3.out _ _ R3.out).mono ?_
  rintro e w4 ⟨rfl, B4⟩
  have L4 := Lib.hid (L3.out.trans (B4.mono L3.out.size))
  clear B4 D3 R3
  go_wp2_with fail
  refine (D4.out _).mono ?_
  rintro e w5 ⟨rfl, B5⟩
  have L5 := Lib.hid (L4.out.trans (B5.mono L4.out.size))
  clear B5 D4
  go_wp2_with fail
  refine (C1.out _).mono ?_
  rintro e w6 ⟨rfl, B6⟩
  have L6 := Lib.hid (L5.out.trans (B6.mono L5.out.size))
  clear B6 C1
  go_wp2
  go_ret
  exact ⟨rfl, L6.out⟩
theorem deltaback_any (B s : ByteArray) (w : World) : Calls Try.prog 5 #[.string B, .string s] w fun e w' => e = .returned (.bool true) ∧ Below w.heap.size w w' := by
  by_cases h : 4099 < B.size ∨ 4099 < s.size
  · exact back_long B s w h
  · have := back_short B.data.toList s.data.toList w (by rw [len_of]; omega) (by rw [len_of]; omega)
    rw [bs_of, bs_of] at this
    exact this
end Go.Proofs.Ytdfoejgkjfklcaa
