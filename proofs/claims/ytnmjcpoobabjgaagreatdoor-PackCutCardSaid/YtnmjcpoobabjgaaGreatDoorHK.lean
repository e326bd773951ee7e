import Derived.Test.YtnmjcpoobabjgaaGreatDoorRows
import Derived.Test.YtnmjcpoobabjgaaGreatDoorGBm
import Derived.ProofKit
import Derived.OpenShut
import Derived.SizedLaws
import Derived.Deep.Slices
import Derived.SliceStrings
set_option linter.unusedVariables false
set_option linter.unusedSimpArgs false
/- What the rows share: arguments opened: a list of parts, of texts, of ints. -/
namespace Go.Proofs.YtnmjcpoobabjgaaGreatDoor
set_option maxRecDepth 100000
open Go.ChangeShapes Go.WideShapes Go.ChangeAt Go.RowKit
theorem Tryz.own : ownKnob Tryz.prog.godebug = none := by kernel_rfl
theorem Tryz.laidOut : laidOutB Tryz.prog = true := by kernel_rfl
theorem c_int : Tryz.prog.cellsOf 3 = 1 := by kernel_rfl
theorem c_bool : Tryz.prog.cellsOf 4 = 1 := by kernel_rfl
theorem c_str : Tryz.prog.cellsOf 9 = 1 := by kernel_rfl
theorem c_part : Tryz.prog.cellsOf 60 = 3 := by kernel_rfl
theorem take_one9 {cs : List Value} {i : Nat} {v : Value} (h : (cs.drop i).take 1 = [v]) : cs[i]? = some v := by
  have h2 := congrArg (fun l => l[0]?) h
  simpa [List.getElem?_take, List.getElem?_drop] using h2
/- a row whose elements are told one by one -/
theorem rowG_of {α : Type} {m : Nat} {g : α → Nat → Value} {d : α} {W : World} {a : Addr} {len cap : Nat} (φ : α → Prop) (hm : 0 < m) (hlc : len ≤ cap) (h : ∀ i, i < len → ∃ x : α, φ x ∧ ∀ j, j < m → W.cell? (a.add (i * m + j)) = some (g x j)) :
    ∃ l : List α, l.length = len ∧ RowG m g d W (.slice (some a) len cap) l ∧ ∀ x ∈ l, φ x := by
  have key : ∀ i, ∃ x : α, i < len → φ x ∧ ∀ j, j < m → W.cell? (a.add (i * m + j)) = some (g x j) := fun i => by
    by_cases hi : i < len
    · obtain ⟨x, hx⟩ := h i hi
      exact ⟨x, fun _ => hx⟩
    · exact ⟨d, fun h => absurd h hi⟩
  obtain ⟨f, hs⟩ : ∃ f : Nat → α, ∀ i, i < len → φ (f i) ∧ ∀ j, j < m → W.cell? (a.add (i * m + j)) = some (g (f i) j) := ⟨fun i => Classical.choose (key i), fun i => Classical.choose_spec (key i)⟩
  clear key h
  refine ⟨(List.range len).map f, by simp, ?_, fun x hx => ?_⟩
  · have hl : ((List.range len).map f).length = len := by simp
    unfold RowG
    rw [hl]
    by_cases h0 : len = 0
    · subst h0; exact Or.inl ⟨_, _, rfl, rfl⟩
    · obtain ⟨b, o, spot⟩ := a
      have hspot : spot = none := by simpa [Addr.add] using World.cell?_spot ((hs 0 (by omega)).2 0 hm)
      subst hspot
      have hc : ∀ i, i < len → ∀ j, j < m → W.cell? ⟨b, o + (i * m + j), none⟩ = some (g (f i) j) := fun i hi j hj => by
        rw [← Addr.add_mid]; exact (hs i hi).2 j hj
      refine Or.inr ⟨b, o, cap, rfl, by omega, hlc, block_lt_of_cell (hc 0 (by omega) 0 hm), fun i hi => ?_⟩
      have hi2 : i / m < len := (Nat.div_lt_iff_lt_mul hm).2 hi
      have := hc (i / m) hi2 (i % m) (Nat.mod_lt _ hm)
      have e : i / m * m + i % m = i := by rw [Nat.mul_comm]; exact Nat.div_add_mod i m
      rw [e] at this
      rw [this]
      unfold cf
      rw [List.getD_eq_getElem?_getD, List.getElem?_map, List.getElem?_range hi2]
      rfl
  · rw [List.mem_map] at hx
    obtain ⟨i, hi, rfl⟩ := hx
    rw [List.mem_range] at hi
    exact (hs i hi).1
theorem weightsAll_mem {H : Type} {P : Program} {e : TypeId} {ds : List (DataW H)} {d : DataW H} (hd : d ∈ ds) : ∀ n ∈ d.weights P e, n ∈ DataW.weightsAll P e ds := by
  induction ds with
  | nil => simp at hd
  | cons x r ih =>
    intro n hn
    simp only [DataW.weightsAll, List.mem_append]
    rcases List.mem_cons.1 hd with rfl | h
    · exact Or.inl hn
    · exact Or.inr (ih h n hn)
theorem wf_i64' {n : Int} (h : (Lit.int .i64 n).wf = true) : -9223372036854775808 ≤ n ∧ n ≤ 9223372036854775807 := by
  simp [Lit.wf, IntKind.min, IntKind.max, IntKind.signed, IntKind.bits] at h
  omega
theorem trod_part {H : Type} {enc : TypeId × Value → H} {W : World} {base : Nat} {sp : Nat → Bool} {held : Bool} {fuel : Nat} {cs : List Value} {x : DataW H × List MemPlace}
    (h : DataW.trod enc Tryz.prog W base sp held fuel 60 cs = some x) : ∃ t : Pt, (∀ j, j < 3 → cs[j]? = some (gP t j)) ∧ ∀ r, (∀ n ∈ x.1.weights Tryz.prog 60, n ≤ r) → t.t.length ≤ r := by
  obtain ⟨ys, m, rfl, rfl, hl, hn, hf⟩ := DataW.trod_struct Tryz.underlying60 h
  have g0 := hf 0 _ rfl
  change DataW.trod enc Tryz.prog W base sp held m 4 ((cs.drop 0).take (Tryz.prog.cellsOf 4)) = ys[0]? at g0
  rw [c_bool, List.getElem?_eq_getElem (by rw [hn]; decide)] at g0
  have g1 := hf 1 _ rfl
  change DataW.trod enc Tryz.prog W base sp held m 3 ((cs.drop 1).take (Tryz.prog.cellsOf 3)) = ys[1]? at g1
  rw [c_int, List.getElem?_eq_getElem (by rw [hn]; decide)] at g1
  have g2 := hf 2 _ rfl
  change DataW.trod enc Tryz.prog W base sp held m 9 ((cs.drop 2).take (Tryz.prog.cellsOf 9)) = ys[2]? at g2
  rw [c_str, List.getElem?_eq_getElem (by rw [hn]; decide)] at g2
  obtain ⟨a, h0, -⟩ := DataW.trod_bool Tryz.underlying4 g0
  obtain ⟨b, h1, -, w1⟩ := DataW.trod_int Tryz.underlying3 g1
  obtain ⟨s, h2, h3, -⟩ := DataW.trod_string Tryz.underlying9 g2
  refine ⟨⟨a, b, s.data.toList⟩, fun j hj => ?_, fun r hr => ?_⟩
  · match j, hj with
    | 0, _ => exact take_one9 h0
    | 1, _ => exact take_one9 h1
    | 2, _ => rw [take_one9 h2]; show _ = some (Value.string (bs s.data.toList)); rw [bs_of]
  · refine hr _ ?_
    dsimp only
    unfold DataW.weights
    rw [Tryz.underlying60]
    refine DataW.weights_mem_each (j := 2) (t := 9) (d := .lit (.string s.data.toList)) rfl ?_ _ (by simp [DataW.weights])
    rw [List.getElem?_map, List.getElem?_eq_getElem (by rw [hn]; decide)]
    exact congrArg (fun z : DataW H × List MemPlace => some z.1) h3
theorem open_parts {H : Type} {enc : TypeId × Value → H} {W : World} {r : Reach} {b0 base : Nat} {held : Bool} {v : Value} {d : DataW H} {ps : List MemPlace}
    (hval : Value.okWide Tryz.prog W r b0 22 v) (hd : DataW.Trod enc Tryz.prog W base (fun _ => true) held 22 v d ps) (hw : ∀ n ∈ d.weights Tryz.prog 22, n ≤ 140737488355328) : ∃ l : List Pt, RowP W v l ∧ l.length ≤ 9223372036854775807 ∧ ∀ x ∈ l, x.t.length ≤ 140737488355328 := by
  obtain ⟨a0, len, cap, rfl⟩ := okWide_slice Tryz.underlying22 hval
  obtain ⟨fuel, hf⟩ := hd
  rcases Go.Deep.open_slice Tryz.underlying22 hf with ⟨hcs, -⟩ | ⟨a, len', cap', m, n, D, Pl, hcs, -, hl, hm, hmm, hx, hi⟩
  · simp [Value.cells] at hcs
    obtain ⟨rfl, rfl, rfl⟩ := hcs
    exact ⟨[], RowG.nil _ _ _ _, by simp, fun x hx => by simp at hx⟩
  · simp [Value.cells] at hcs
    obtain ⟨rfl, rfl, rfl⟩ := hcs
    simp only [if_true] at hmm
    simp only [Prod.mk.injEq] at hx
    obtain ⟨rfl, -⟩ := hx
    obtain ⟨l, h1, h2, h3⟩ := rowG_of (g := gP) (d := zp) (W := W) (a := a) (len := len) (cap := cap) (fun x : Pt => x.t.length ≤ 140737488355328) (show 0 < 3 by decide) hl (fun i hil => by
      obtain ⟨cs', g1, g2⟩ := hi i (by omega)
      rw [c_part] at g1
      obtain ⟨_, _, hc⟩ := World.cells?_some g1
      obtain ⟨t, ht, hr⟩ := trod_part g2
      refine ⟨t, hr _ fun n hn => hw n ?_, fun j hj => by rw [← Go.Deep.add_add, hc j hj]; exact ht j hj⟩
      unfold DataW.weights
      rw [Tryz.underlying22]
      refine List.mem_cons_of_mem _ (List.mem_append_left _ (weightsAll_mem (d := D i) ?_ n hn))
      exact List.mem_map.2 ⟨i, List.mem_range.2 hil, rfl⟩)
    refine ⟨l, h2, by unfold maxLen at hm; omega, h3⟩
theorem open_texts {H : Type} {enc : TypeId × Value → H} {W : World} {r : Reach} {b0 base : Nat} {held : Bool} {v : Value} {d : DataW H} {ps : List MemPlace}
    (hval : Value.okWide Tryz.prog W r b0 71 v) (hd : DataW.Trod enc Tryz.prog W base (fun _ => true) held 71 v d ps) : ∃ l : List (List UInt8), RowS W v l ∧ l.length ≤ 9223372036854775807 := by
  obtain ⟨a0, len, cap, rfl⟩ := okWide_slice Tryz.underlying71 hval
  obtain ⟨fuel, hf⟩ := hd
  rcases Go.Deep.open_slice1 Tryz.underlying71 c_str hf with ⟨hcs, -⟩ | ⟨a, len', cap', m, n, V, D, Pl, hcs, -, hl, hm, hmm, hx, hi⟩
  · simp [Value.cells] at hcs
    obtain ⟨rfl, rfl, rfl⟩ := hcs
    exact ⟨[], RowG.nil _ _ _ _, by simp⟩
  · simp [Value.cells] at hcs
    obtain ⟨rfl, rfl, rfl⟩ := hcs
    simp only [if_true] at hmm
    obtain ⟨l, h1, h2, h3⟩ := rowG_of (g := gS) (d := []) (W := W) (a := a) (len := len) (cap := cap) (fun _ => True) (show 0 < 1 by decide) hl (fun i hil => by
      obtain ⟨g1, g2⟩ := hi i (by omega)
      obtain ⟨s, e1, -, -⟩ := DataW.trod_string Tryz.underlying9 g2
      refine ⟨s.data.toList, trivial, fun j hj => ?_⟩
      obtain rfl : j = 0 := by omega
      rw [Nat.mul_one, Nat.add_zero, g1]
      show _ = some (Value.string (bs s.data.toList))
      rw [bs_of]
      simpa using e1)
    exact ⟨l, h2, by unfold maxLen at hm; omega⟩
theorem open_ints9 {H : Type} {enc : TypeId × Value → H} {W : World} {r : Reach} {b0 base : Nat} {held : Bool} {v : Value} {d : DataW H} {ps : List MemPlace}
    (hval : Value.okWide Tryz.prog W r b0 28 v) (hd : DataW.Trod enc Tryz.prog W base (fun _ => true) held 28 v d ps) : ∃ l : List Int, RowI W v l ∧ l.length ≤ 9223372036854775807 ∧ ∀ x ∈ l, -9223372036854775808 ≤ x ∧ x ≤ 9223372036854775807 := by
  obtain ⟨a0, len, cap, rfl⟩ := okWide_slice Tryz.underlying28 hval
  obtain ⟨fuel, hf⟩ := hd
  rcases Go.Deep.open_slice1 Tryz.underlying28 c_int hf with ⟨hcs, -⟩ | ⟨a, len', cap', m, n, V, D, Pl, hcs, -, hl, hm, hmm, hx, hi⟩
  · simp [Value.cells] at hcs
    obtain ⟨rfl, rfl, rfl⟩ := hcs
    exact ⟨[], RowG.nil _ _ _ _, by simp, fun x hx => by simp at hx⟩
  · simp [Value.cells] at hcs
    obtain ⟨rfl, rfl, rfl⟩ := hcs
    simp only [if_true] at hmm
    obtain ⟨l, h1, h2, h3⟩ := rowG_of (g := gI) (d := 0) (W := W) (a := a) (len := len) (cap := cap) (fun x : Int => -9223372036854775808 ≤ x ∧ x ≤ 9223372036854775807) (show 0 < 1 by decide) hl (fun i hil => by
      obtain ⟨g1, g2⟩ := hi i (by omega)
      obtain ⟨z, e1, -, w1⟩ := DataW.trod_int Tryz.underlying3 g2
      refine ⟨z, wf_i64' w1, fun j hj => ?_⟩
      obtain rfl : j = 0 := by omega
      rw [Nat.mul_one, Nat.add_zero, g1]
      simpa [gI] using e1)
    exact ⟨l, h2, by unfold maxLen at hm; omega, h3⟩
theorem as_u8 {n : Int} (h : (Lit.int .u8 n).wf = true) : ∃ c : Nat, n = (c : Int) ∧ c < 256 := by
  simp [Lit.wf, IntKind.min, IntKind.max, IntKind.signed, IntKind.bits] at h
  exact ⟨n.toNat, by omega, by omega⟩
end Go.Proofs.YtnmjcpoobabjgaaGreatDoor
