import Derived.Test.YtlbclfponongbaaGreatDoorRows
import Derived.Test.YtlbclfponongbaaGreatDoorO21m
import Derived.Deep.Slices
import Derived.ProofKit
import Derived.OpenShut
/- What the rows' proofs share: arguments opened. -/
namespace Go.Proofs.YtlbclfponongbaaGreatDoor
open Go.ChangeShapes Go.WideShapes Go.ChangeAt Go.RowKit
theorem Tryz.own : ownKnob Tryz.prog.godebug = none := by kernel_rfl
theorem Tryz.laidOut : laidOutB Tryz.prog = true := by kernel_rfl
theorem cI : Tryz.prog.cellsOf 3 = 1 := by kernel_rfl
theorem cS : Tryz.prog.cellsOf 9 = 1 := by kernel_rfl
theorem c8 : Tryz.prog.cellsOf 5 = 1 := by kernel_rfl
theorem cId : Tryz.prog.cellsOf 29 = 32 := by kernel_rfl
theorem cIds : Tryz.prog.cellsOf 35 = 1 := by kernel_rfl
theorem cEn : Tryz.prog.cellsOf 56 = 34 := by kernel_rfl
theorem cOb : Tryz.prog.cellsOf 23 = 2 := by kernel_rfl
theorem cCo : Tryz.prog.cellsOf 37 = 34 := by kernel_rfl
theorem take_one {cs : List Value} {i : Nat} {v : Value} (h : (cs.drop i).take 1 = [v]) : cs[i]? = some v := by
  have h2 := congrArg (fun l => l[0]?) h
  simpa [List.getElem?_take, List.getElem?_drop] using h2
theorem wf_u8 {n : Int} (h : (Lit.int .u8 n).wf = true) : 0 ≤ n ∧ n < 256 := by
  simp [Lit.wf, IntKind.min, IntKind.max, IntKind.signed, IntKind.bits] at h
  omega
section
variable {H : Type} {enc : TypeId × Value → H} {W : World} {base : Nat} {sp : Nat → Bool} {held : Bool}
set_option maxRecDepth 100000 in
theorem trod_bytes {fuel : Nat} {cs : List Value} {x : DataW H × List MemPlace} (h : DataW.trod enc Tryz.prog W base sp held fuel 29 cs = some x) : ∃ f : Nat → UInt8, ∀ i, i < 32 → cs[i]? = some (cb (f i)) := by
  obtain ⟨xs, m, rfl, _, hl, hn, hel⟩ := DataW.trod_array Tryz.underlying29 h
  have key : ∀ i, ∃ b : UInt8, i < 32 → cs[i]? = some (cb b) := by
    intro i
    by_cases hi : i < 32
    · have hei := hel i hi
      rw [List.getElem?_eq_getElem (by omega), c8, Nat.mul_one] at hei
      obtain ⟨n, hc, _, wn⟩ := DataW.trod_int Tryz.underlying5 hei
      obtain ⟨n0, n1⟩ := wf_u8 wn
      refine ⟨UInt8.ofNat n.toNat, fun _ => ?_⟩
      have hc2 := congrArg (fun l => l[0]?) hc
      have hc3 : cs[i]? = some (.int .u8 n) := by simpa [List.getElem?_take, List.getElem?_drop] using hc2
      rw [hc3]
      unfold cb
      rw [UInt8.toNat_ofNat']
      congr 2
      omega
    · exact ⟨0, fun h => absurd h hi⟩
  exact ⟨fun i => Classical.choose (key i), fun i hi => Classical.choose_spec (key i) hi⟩
set_option maxRecDepth 100000 in
theorem trod_entry {fuel : Nat} {cs : List Value} {x : DataW H × List MemPlace} (h : DataW.trod enc Tryz.prog W base sp held fuel 56 cs = some x) : ∃ e : Ent, e.name.length ≤ maxLen ∧ ∀ j, j < 34 → cs[j]? = some (ev e j) := by
  obtain ⟨ys, m, rfl, _, hl, hn, hf⟩ := DataW.trod_struct Tryz.underlying56 h
  have g0 := hf 0 _ rfl
  change DataW.trod enc Tryz.prog W base sp held m 9 ((cs.drop 0).take (Tryz.prog.cellsOf 9)) = ys[0]? at g0
  rw [cS, List.getElem?_eq_getElem (by rw [hn]; decide)] at g0
  have g1 := hf 1 _ rfl
  change DataW.trod enc Tryz.prog W base sp held m 3 ((cs.drop 1).take (Tryz.prog.cellsOf 3)) = ys[1]? at g1
  rw [cI, List.getElem?_eq_getElem (by rw [hn]; decide)] at g1
  have g2 := hf 2 _ rfl
  change DataW.trod enc Tryz.prog W base sp held m 29 ((cs.drop 2).take (Tryz.prog.cellsOf 29)) = ys[2]? at g2
  rw [cId, List.getElem?_eq_getElem (by rw [hn]; decide)] at g2
  obtain ⟨s, h0, -, hs⟩ := DataW.trod_string Tryz.underlying9 g0
  obtain ⟨b, h1, -, -⟩ := DataW.trod_int Tryz.underlying3 g1
  obtain ⟨f, h2⟩ := trod_bytes g2
  refine ⟨⟨s.data.toList, b, f⟩, by rw [len_of]; exact hs, fun j hj => ?_⟩
  by_cases c0 : j = 0
  · subst c0
    rw [take_one h0]
    show _ = some (Value.string (bs s.data.toList))
    rw [bs_of]
  · by_cases c1 : j = 1
    · subst c1
      exact take_one h1
    · have h5 := h2 (j - 2) (by omega)
      rw [List.getElem?_take_of_lt (by omega), List.getElem?_drop, show 2 + (j - 2) = j by omega] at h5
      rw [h5]
      unfold ev
      rw [if_neg c0, if_neg c1]
set_option maxRecDepth 100000 in
theorem agg_of {t : TypeId} {v : Value} {k : Nat} (hk : Tryz.prog.cellsOf t = k) (h2 : k ≠ 1) {l : List Value} (hl : l = v.cells.toList) (h : l.length = Tryz.prog.cellsOf t) : ∃ cs : Array Value, v = .agg cs ∧ cs.toList = l ∧ cs.size = k := by
  subst hl
  rw [hk] at h
  cases v <;> simp [Value.cells] at h ⊢ <;> first | omega | exact h
set_option maxRecDepth 100000 in
theorem open_obj {v : Value} {d : DataW H} {ps : List MemPlace} (hd : DataW.Trod enc Tryz.prog W base sp held 23 v d ps) : ∃ (k : Int) (l : List UInt8), v = .agg #[.int .i64 k, .string (bs l)] ∧ l.length ≤ maxLen := by
  obtain ⟨fuel, hf⟩ := hd
  obtain ⟨ys, m, -, _, hl, hn, hg⟩ := DataW.trod_struct Tryz.underlying23 hf
  obtain ⟨cs, rfl, hcs, hsz⟩ := agg_of cOb (by decide) rfl hl
  rw [← hcs] at hg
  have g0 := hg 0 _ rfl
  change DataW.trod enc Tryz.prog W base sp held m 3 ((cs.toList.drop 0).take (Tryz.prog.cellsOf 3)) = ys[0]? at g0
  rw [cI, List.getElem?_eq_getElem (by rw [hn]; decide)] at g0
  have g1 := hg 1 _ rfl
  change DataW.trod enc Tryz.prog W base sp held m 9 ((cs.toList.drop 1).take (Tryz.prog.cellsOf 9)) = ys[1]? at g1
  rw [cS, List.getElem?_eq_getElem (by rw [hn]; decide)] at g1
  obtain ⟨k, h0, -, -⟩ := DataW.trod_int Tryz.underlying3 g0
  obtain ⟨s, h1, -, hs⟩ := DataW.trod_string Tryz.underlying9 g1
  have e0 := take_one h0
  have e1 := take_one h1
  refine ⟨k, s.data.toList, ?_, by rw [len_of]; exact hs⟩
  rw [bs_of]
  congr 1
  apply Array.ext_getElem?
  intro i
  match i with
  | 0 => rw [← Array.getElem?_toList, e0]; rfl
  | 1 => rw [← Array.getElem?_toList, e1]; rfl
  | i + 2 => rw [Array.getElem?_eq_none (by omega), Array.getElem?_eq_none (by simp)]
/- a slice of elements of m cells each, out of what each element's cells say -/
set_option maxRecDepth 100000 in
theorem open_elems {t e : TypeId} {α : Type} [Inhabited α] {m : Nat} {c : α → Nat → Value} {Ok : α → Prop} (ht : Tryz.prog.underlying t = some (.slice e)) (hm : Tryz.prog.cellsOf e = m) (hm0 : 0 < m)
    (hel : ∀ {fuel : Nat} {cs : List Value} {x : DataW H × List MemPlace}, DataW.trod enc Tryz.prog W base sp held fuel e cs = some x → ∃ a : α, Ok a ∧ ∀ j, j < m → cs[j]? = some (c a j))
    {fuel : Nat} {v : Value} {x : DataW H × List MemPlace} (h : DataW.trod enc Tryz.prog W base sp held fuel t [v] = some x) : ∃ (f : Nat → α) (n : Nat), n ≤ maxLen ∧ (∀ i, i < n → Ok (f i)) ∧ Row W v m (fun i => c (f (i / m)) (i % m)) n := by
  rcases Go.Deep.open_slice ht h with ⟨hcs, -⟩ | ⟨a, len, cap, mm, n, D, Pl, hcs, -, hl, hml, hmm, -, hx⟩
  · simp at hcs
    subst hcs
    exact ⟨fun _ => default, 0, Nat.zero_le _, (fun i hi => absurd hi (by omega)), Row.nil _ _ _⟩
  · simp at hcs
    subst hcs
    have hlm : len ≤ mm := by rw [hmm]; split <;> omega
    have key : ∀ i, ∃ y : α, i < len → Ok y ∧ ∀ j, j < m → W.cell? (a.add (i * m + j)) = some (c y j) := by
      intro i
      by_cases hi : i < len
      · obtain ⟨cs', h1, h2⟩ := hx i (by omega)
        rw [hm] at h1
        obtain ⟨_, _, hc⟩ := World.cells?_some h1
        obtain ⟨y, hy, hyj⟩ := hel h2
        exact ⟨y, fun _ => ⟨hy, fun j hj => by rw [← Go.Deep.add_add, hc j hj]; exact hyj j hj⟩⟩
      · exact ⟨default, fun h => absurd h hi⟩
    have hs := fun i => Classical.choose_spec (key i)
    refine ⟨fun i => Classical.choose (key i), len, Nat.le_trans hl hml, fun i hi => (hs i hi).1, ?_⟩
    obtain ⟨b, off, spot⟩ := a
    by_cases h0 : 0 < len
    · have hspot : spot = none := by simpa [Addr.add] using World.cell?_spot ((hs 0 h0).2 0 hm0)
      subst hspot
      have hcell : ∀ i, i < len * m → W.cell? ⟨b, off + i, none⟩ = some (c (Classical.choose (key (i / m))) (i % m)) := fun i hi => by
        have hdiv : i / m < len := Nat.div_lt_of_lt_mul (by rw [Nat.mul_comm]; exact hi)
        have hmod : i % m < m := Nat.mod_lt _ hm0
        have := (hs (i / m) hdiv).2 (i % m) hmod
        rw [Addr.add_mid, Nat.div_add_mod'] at this
        exact this
      exact Or.inr ⟨b, off, cap, rfl, h0, hl, block_lt_of_cell (hcell 0 (Nat.mul_pos h0 hm0)), hcell⟩
    · have e : len = 0 := by omega
      subst e
      exact Or.inl ⟨_, _, rfl, rfl⟩
set_option maxRecDepth 100000 in
theorem open_ents {v : Value} {d : DataW H} {ps : List MemPlace} {r : Reach} {b0 : Nat} (hval : Value.okWide Tryz.prog W r b0 32 v) (hd : DataW.Trod enc Tryz.prog W base sp held 32 v d ps) : ∃ (es : Nat → Ent) (n : Nat), n ≤ maxLen ∧ (∀ i, i < n → (es i).name.length ≤ maxLen) ∧ Row W v 34 (ec es) n := by
  obtain ⟨a0, len, cap, rfl⟩ := okWide_slice Tryz.underlying32 hval
  obtain ⟨fuel, hf⟩ := hd
  exact open_elems (α := Ent) (c := ev) (Ok := fun e => e.name.length ≤ maxLen) Tryz.underlying32 cEn (by decide) (fun h => trod_entry h) hf
set_option maxRecDepth 100000 in
theorem arr_of {cs : Array Value} {n : Nat} {F : Nat → Value} (hsz : cs.size = n) (h : ∀ i, i < n → cs.toList[i]? = some (F i)) : cs = arr n F := by
  apply Array.ext_getElem?
  intro i
  by_cases hi : i < n
  · rw [arr_get _ _ _ hi, ← Array.getElem?_toList]; exact h i hi
  · rw [Array.getElem?_eq_none (by omega), Array.getElem?_eq_none (by rw [arr_size]; omega)]
theorem com_cells {l : List Value} {t : Nat → UInt8} {u : Value} {s : ByteArray} (h0 : ∀ i, i < 32 → ((l.drop 0).take 32)[i]? = some (cb (t i))) (h1 : l[32]? = some u) (h2 : l[33]? = some (.string s)) : ∀ i, i < 34 → l[i]? = some (cv t u s.data.toList i) := by
  intro i hi
  unfold cv
  by_cases c0 : i < 32
  · have h5 := h0 i c0
    rw [List.getElem?_take_of_lt c0, List.drop_zero] at h5
    rw [if_pos c0, h5]
  · by_cases c1 : i = 32
    · rw [if_neg c0, if_pos c1, c1, h1]
    · have c2 : i = 33 := by omega
      rw [if_neg c0, if_neg c1, c2, h2, bs_of]
set_option maxHeartbeats 1000000 in
set_option maxRecDepth 100000 in
theorem open_com {v : Value} {d : DataW H} {ps : List MemPlace} (hd : DataW.Trod enc Tryz.prog W base sp held 37 v d ps) : ∃ (t : Nat → UInt8) (p : Nat → Nat → UInt8) (n : Nat) (u : Value) (s : List UInt8), v = .agg (arr 34 (cv t u s)) ∧ n ≤ maxLen ∧ s.length ≤ maxLen ∧ Row W u 32 (pc p) n := by
  obtain ⟨fuel, hf⟩ := hd
  obtain ⟨ys, m, -, _, hl, hn, hg⟩ := DataW.trod_struct Tryz.underlying37 hf
  obtain ⟨cs, rfl, hcs, hsz⟩ := agg_of cCo (by decide) rfl hl
  rw [← hcs] at hg
  have g0 := hg 0 _ rfl
  change DataW.trod enc Tryz.prog W base sp held m 29 ((cs.toList.drop 0).take (Tryz.prog.cellsOf 29)) = ys[0]? at g0
  rw [cId, List.getElem?_eq_getElem (by rw [hn]; decide)] at g0
  have g1 := hg 1 _ rfl
  change DataW.trod enc Tryz.prog W base sp held m 35 ((cs.toList.drop 32).take (Tryz.prog.cellsOf 35)) = ys[1]? at g1
  rw [cIds, List.getElem?_eq_getElem (by rw [hn]; decide)] at g1
  have g2 := hg 2 _ rfl
  change DataW.trod enc Tryz.prog W base sp held m 9 ((cs.toList.drop 33).take (Tryz.prog.cellsOf 9)) = ys[2]? at g2
  rw [cS, List.getElem?_eq_getElem (by rw [hn]; decide)] at g2
  obtain ⟨t, h0⟩ := trod_bytes g0
  obtain ⟨s, h2, -, hs⟩ := DataW.trod_string Tryz.underlying9 g2
  have h33 := take_one h2
  have l34 : 32 < cs.toList.length := by rw [Array.length_toList, hsz]; omega
  have hu : (cs.toList.drop 32).take 1 = [cs.toList[32]] := by
    rw [List.drop_eq_getElem_cons l34]; rfl
  rw [hu] at g1
  have h32 := take_one hu
  generalize cs.toList[32] = u at g1 h32
  obtain ⟨p, n, hn2, -, hR⟩ := open_elems (α := Nat → UInt8) (c := bv) (Ok := fun _ => True) Tryz.underlying35 cId (by decide) (fun h => by
    obtain ⟨f, hf⟩ := trod_bytes h
    exact ⟨f, trivial, fun j hj => hf j hj⟩) g1
  refine ⟨t, p, n, u, s.data.toList, ?_, hn2, by rw [len_of]; exact hs, hR⟩
  rw [arr_of hsz (com_cells h0 h32 h33)]
end
end Go.Proofs.YtlbclfponongbaaGreatDoor
