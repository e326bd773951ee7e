import Derived.Test.YtchdhpnklnfplaaV9
import Derived.Deep.Slices
import Derived.ProofKit
import Derived.OpenShut
/- The argument of the laws: a slice of things. -/
namespace Go.Proofs.Ytchdhpnklnfplaa
open Go.ChangeShapes Go.WideShapes Go.ChangeAt Go.RowKit
/- a thing -/
structure It where
  kind : Int
  n : Int
  most : Int
  s : List UInt8
  id : Nat → UInt8
/- its 36 cells -/
def itc (x : It) : Nat → Value
  | 0 => .int .i64 x.kind
  | 1 => .int .i64 x.n
  | 2 => .int .i64 x.most
  | 3 => .string (bs x.s)
  | j + 4 => cb (x.id j)
def okIt (x : It) : Prop := (-9223372036854775808 ≤ x.kind ∧ x.kind ≤ 9223372036854775807) ∧ (-9223372036854775808 ≤ x.n ∧ x.n ≤ 9223372036854775807)
/- what a slice of things says -/
def Items (w : World) (v : Value) (its : Nat → It) (len : Nat) : Prop :=
  len ≤ maxLen ∧ ∃ ad cap, v = .slice ad len cap ∧ (0 < len → ∃ b o, ad = some ⟨b, o, none⟩ ∧ b < w.heap.size ∧ ∀ i, i < len → okIt (its i) ∧ ∀ j, j < 36 → w.cell? ⟨b, o + i * 36 + j, none⟩ = some (itc (its i) j))
theorem Items.keep {K : Nat → Prop} {w w' : World} {v : Value} {its : Nat → It} {len : Nat} (h : Items w v its len) (hk : Keep K w w') (hK : ∀ k, k < w.heap.size → K k) : Items w' v its len := by
  obtain ⟨hm, ad, cap, rfl, h⟩ := h
  refine ⟨hm, ad, cap, rfl, fun h0 => ?_⟩
  obtain ⟨b, o, rfl, hb, hc⟩ := h h0
  exact ⟨b, o, rfl, Nat.lt_of_lt_of_le hb hk.size, fun i hi => ⟨(hc i hi).1, fun j hj => hk.cell (hK b hb) ((hc i hi).2 j hj)⟩⟩
theorem Items.below {w w' : World} {v : Value} {its : Nat → It} {len : Nat} (h : Items w v its len) (hb : Below w.heap.size w w') : Items w' v its len :=
  h.keep (K := fun _ => True) (Keep.all hb) fun _ _ => trivial
theorem wf_i64 {n : Int} (h : (Lit.int .i64 n).wf = true) : -9223372036854775808 ≤ n ∧ n ≤ 9223372036854775807 := by
  simp [Lit.wf, IntKind.min, IntKind.max, IntKind.signed, IntKind.bits] at h
  omega
theorem wf_u8 {n : Int} (h : (Lit.int .u8 n).wf = true) : 0 ≤ n ∧ n < 256 := by
  simp [Lit.wf, IntKind.min, IntKind.max, IntKind.signed, IntKind.bits] at h
  omega
theorem c3 : Try.prog.cellsOf 3 = 1 := by kernel_rfl
theorem c9 : Try.prog.cellsOf 9 = 1 := by kernel_rfl
theorem c5 : Try.prog.cellsOf 5 = 1 := by kernel_rfl
theorem c30 : Try.prog.cellsOf 30 = 32 := by kernel_rfl
theorem c32 : Try.prog.cellsOf 32 = 36 := by kernel_rfl
theorem trod_bytes {H : Type} {enc : TypeId × Value → H} {W : World} {base : Nat} {sp : Nat → Bool} {held : Bool} {fuel : Nat} {cs : List Value} {x : DataW H × List MemPlace}
    (h : DataW.trod enc Try.prog W base sp held fuel 30 cs = some x) : ∃ f : Nat → UInt8, ∀ i, i < 32 → cs[i]? = some (cb (f i)) := by
  obtain ⟨xs, m, rfl, _, hl, hn, hel⟩ := DataW.trod_array Try.underlying30 h
  have key : ∀ i, ∃ b : UInt8, i < 32 → cs[i]? = some (cb b) := by
    intro i
    by_cases hi : i < 32
    · have hei := hel i hi
      rw [List.getElem?_eq_getElem (by omega), c5, Nat.mul_one] at hei
      obtain ⟨n, hc, _, wn⟩ := DataW.trod_int Try.underlying5 hei
      obtain ⟨n0, n1⟩ := wf_u8 wn
      refine ⟨UInt8.ofNat n.toNat, fun _ => ?_⟩
      have hc2 := congrArg (fun l => l[0]?) hc
      have hc3 : cs[i]? = some (.int .u8 n) := by simpa [List.getElem?_take, List.getElem?_drop] using hc2
      rw [hc3]
      unfold cb
      rw [UInt8.toNat_ofNat']
      congr 2
      omega
    · exact ⟨0, fun h => absurd h hi⟩
  exact ⟨fun i => Classical.choose (key i), fun i hi => Classical.choose_spec (key i) hi⟩
theorem take_one {cs : List Value} {i : Nat} {v : Value} (h : (cs.drop i).take 1 = [v]) : cs[i]? = some v := by
  have h2 := congrArg (fun l => l[0]?) h
  simpa [List.getElem?_take, List.getElem?_drop] using h2
theorem trod_item {H : Type} {enc : TypeId × Value → H} {W : World} {base : Nat} {sp : Nat → Bool} {held : Bool} {fuel : Nat} {cs : List Value} {x : DataW H × List MemPlace}
    (h : DataW.trod enc Try.prog W base sp held fuel 32 cs = some x) : ∃ t : It, okIt t ∧ ∀ j, j < 36 → cs[j]? = some (itc t j) := by
  obtain ⟨ys, m, rfl, _, hl, hn, hf⟩ := DataW.trod_struct Try.underlying32 h
  have g0 := hf 0 _ rfl
  change DataW.trod enc Try.prog W base sp held m 3 ((cs.drop 0).take (Try.prog.cellsOf 3)) = ys[0]? at g0
  rw [c3, List.getElem?_eq_getElem (by rw [hn]; decide)] at g0
  have g1 := hf 1 _ rfl
  change DataW.trod enc Try.prog W base sp held m 3 ((cs.drop 1).take (Try.prog.cellsOf 3)) = ys[1]? at g1
  rw [c3, List.getElem?_eq_getElem (by rw [hn]; decide)] at g1
  have g2 := hf 2 _ rfl
  change DataW.trod enc Try.prog W base sp held m 3 ((cs.drop 2).take (Try.prog.cellsOf 3)) = ys[2]? at g2
  rw [c3, List.getElem?_eq_getElem (by rw [hn]; decide)] at g2
  have g3 := hf 3 _ rfl
  change DataW.trod enc Try.prog W base sp held m 9 ((cs.drop 3).take (Try.prog.cellsOf 9)) = ys[3]? at g3
  rw [c9, List.getElem?_eq_getElem (by rw [hn]; decide)] at g3
  have g4 := hf 4 _ rfl
  change DataW.trod enc Try.prog W base sp held m 30 ((cs.drop 4).take (Try.prog.cellsOf 30)) = ys[4]? at g4
  rw [c30, List.getElem?_eq_getElem (by rw [hn]; decide)] at g4
  obtain ⟨a, h0, -, w0⟩ := DataW.trod_int Try.underlying3 g0
  obtain ⟨b, h1, -, w1⟩ := DataW.trod_int Try.underlying3 g1
  obtain ⟨c, h2, -, w2⟩ := DataW.trod_int Try.underlying3 g2
  obtain ⟨s, h3, -, -⟩ := DataW.trod_string Try.underlying9 g3
  obtain ⟨f, h4⟩ := trod_bytes g4
  refine ⟨⟨a, b, c, s.data.toList, f⟩, ⟨wf_i64 w0, wf_i64 w1⟩, fun j hj => ?_⟩
  match j, hj with
  | 0, _ => exact take_one h0
  | 1, _ => exact take_one h1
  | 2, _ => exact take_one h2
  | 3, _ => rw [take_one h3]; show _ = some (Value.string (bs s.data.toList)); rw [bs_of]
  | j + 4, hj =>
    have h5 := h4 j (by omega)
    rw [List.getElem?_take_of_lt (by omega), List.getElem?_drop] at h5
    have h6 : cs[j + 4]? = some (cb (f j)) := by rw [Nat.add_comm]; exact h5
    exact h6
theorem open_items {H : Type} {enc : TypeId × Value → H} {W : World} {r : Reach} {b0 base : Nat} {held : Bool} {v : Value} {d : DataW H} {ps : List MemPlace}
    (hval : Value.okWide Try.prog W r b0 22 v) (hd : DataW.Trod enc Try.prog W base (fun _ => true) held 22 v d ps) : ∃ (its : Nat → It) (len : Nat), Items W v its len := by
  obtain ⟨a0, len, cap, rfl⟩ := okWide_slice Try.underlying22 hval
  obtain ⟨fuel, hf⟩ := hd
  rcases Go.Deep.open_slice Try.underlying22 hf with ⟨hcs, -⟩ | ⟨a, len', cap', m, n, D, Pl, hcs, -, hl, hm, hmm, -, hx⟩
  · simp [Value.cells] at hcs
    obtain ⟨rfl, rfl, rfl⟩ := hcs
    exact ⟨fun _ => ⟨0, 0, 0, [], fun _ => 0⟩, 0, Nat.zero_le _, none, 0, rfl, fun h => absurd h (by omega)⟩
  · simp [Value.cells] at hcs
    obtain ⟨rfl, rfl, rfl⟩ := hcs
    simp only [if_true] at hmm
    have key : ∀ i, ∃ t : It, i < len → okIt t ∧ ∀ j, j < 36 → W.cell? (a.add (i * 36 + j)) = some (itc t j) := by
      intro i
      by_cases hi : i < len
      · obtain ⟨cs', h1, h2⟩ := hx i (by omega)
        rw [c32] at h1
        obtain ⟨_, _, hc⟩ := World.cells?_some h1
        obtain ⟨t, ht, htj⟩ := trod_item h2
        exact ⟨t, fun _ => ⟨ht, fun j hj => by rw [← Go.Deep.add_add, hc j hj]; exact htj j hj⟩⟩
      · exact ⟨⟨0, 0, 0, [], fun _ => 0⟩, fun h => absurd h hi⟩
    refine ⟨fun i => Classical.choose (key i), len, Nat.le_trans hl hm, some a, cap, rfl, fun h0 => ?_⟩
    have hs := fun i => Classical.choose_spec (key i)
    obtain ⟨b, off, spot⟩ := a
    have hspot : spot = none := by simpa [Addr.add] using World.cell?_spot ((hs 0 h0).2 0 (by omega))
    subst hspot
    have hc : ∀ i, i < len → ∀ j, j < 36 → W.cell? ⟨b, off + i * 36 + j, none⟩ = some (itc (Classical.choose (key i)) j) := fun i hi j hj => by
      rw [Nat.add_assoc, ← Addr.add_mid]; exact (hs i hi).2 j hj
    exact ⟨b, off, rfl, block_lt_of_cell (hc 0 h0 0 (by omega)), fun i hi => ⟨(hs i hi).1, hc i hi⟩⟩
/- more than 60 things, or a text of more than 500 bytes -/
def longs (its : Nat → It) : Nat → Bool
  | 0 => false
  | k + 1 => longs its k || decide (500 < (its k).s.length)
theorem longs_false {its : Nat → It} {len : Nat} (h : longs its len = false) : ∀ i, i < len → (its i).s.length ≤ 500 := by
  induction len with
  | zero => intro i hi; omega
  | succ k ih =>
    unfold longs at h
    rw [Bool.or_eq_false_iff] at h
    intro i hi
    by_cases c : i < k
    · exact ih h.1 i c
    · have e : i = k := by omega
      subst e
      have := of_decide_eq_false h.2
      omega
theorem longs_true {its : Nat → It} {k len : Nat} (hk : k < len) (h : 500 < (its k).s.length) : longs its len = true := by
  induction len with
  | zero => omega
  | succ n ih =>
    unfold longs
    by_cases c : k < n
    · rw [ih c, Bool.true_or]
    · have e : k = n := by omega
      subst e
      rw [decide_eq_true h, Bool.or_true]
def isGreat (its : Nat → It) (len : Nat) : Bool := decide (60 < len) || longs its len
set_option maxHeartbeats 1000000 in
set_option maxRecDepth 100000 in
theorem great_any (its : Nat → It) (v : Value) (len : Nat) (w : World) (hI : Items w v its len) :
    Calls Try.prog 8 #[v] w fun e w' => e = .returned (.bool (isGreat its len)) ∧ w = w' := by
  obtain ⟨hm, ad, cap, rfl, ha⟩ := hI
  have HA := Lib.hid ha
  unfold maxLen at hm
  clear ha
  by_cases h60 : 60 < len
  · have b1 : (60 : Int) < (len : Int) := by omega
    have e : isGreat its len = true := by unfold isGreat; rw [decide_eq_true h60]; rfl
    rw [e]
    clear e
    go_enter Try.func8, Try.ntmps8
    go_wp2
    go_ret
    exact ⟨rfl, rfl⟩
  · have b1 : (len : Int) ≤ 60 := by omega
    have e : isGreat its len = longs its len := by unfold isGreat; rw [decide_eq_false h60]; rfl
    rw [e]
    clear e
    go_enter Try.func8, Try.ntmps8
    go_wp2
    go_loopw [3] (fun i wr => ∃ k : Nat, k ≤ len ∧ i = .int .i64 k ∧ longs its k = false ∧ w = wr) (fun i _ => len - (intOf i).toNat)
    case atStart => exact ⟨0, by omega, rfl, rfl, rfl⟩
    case round =>
      obtain ⟨k, hk, rfl, hf, rfl⟩ := hrel
      have Hf := Lib.hid hf
      clear hf
      by_cases hlt : k < len
      · obtain ⟨b, o, rfl, hb, hc⟩ := HA.out (by omega)
        have ck := (hc k hlt).2 3 (by omega)
        clear hc
        have hz := bs_size (its k).s
        rw [show itc (its k) 3 = .string (bs (its k).s) from rfl] at ck
        generalize bs (its k).s = sb at ck hz
        have zk : (0 : Int) ≤ (k : Int) := by omega
        have yk : (k : Int) < (len : Int) := by omega
        by_cases h1 : 500 < (its k).s.length
        · have e : longs its len = true := longs_true hlt h1
          have b2 : (500 : Int) < (sb.size : Int) := by omega
          clear h1 hz
          go_wp2
          go_ret
          rw [e]
          exact ⟨rfl, rfl⟩
        · have b2 : decide ((500 : Int) < (sb.size : Int)) = false := by simp; omega
          have e : longs its (k + 1) = false := by unfold longs; rw [Hf.out, decide_eq_false h1]; rfl
          have He := Lib.hid e
          clear h1 e hz
          go_wp2
          go_roundw
          case rel => exact ⟨k + 1, by omega, by go_num, He.out, trivial⟩
          case measure => simp [intOf]; omega
      · have e : k = len := by omega
        subst e
        go_wp2
        go_ret
        rw [Hf.out]
        exact ⟨rfl, rfl⟩
end Go.Proofs.Ytchdhpnklnfplaa
