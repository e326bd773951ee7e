import Derived.Test.YtnmjcpoobabjgaaGreatDoorHK
import Derived.Test.YtnmjcpoobabjgaaGreatDoorPbm
set_option linter.unusedVariables false
set_option linter.unusedSimpArgs false
/- An id as an argument. -/
namespace Go.Proofs.YtnmjcpoobabjgaaGreatDoor
set_option maxRecDepth 100000
open Go.ChangeShapes Go.WideShapes Go.ChangeAt Go.RowKit
theorem arr_of (cs : Array Value) (hsz : cs.size = 32) (h : ∀ i, i < 32 → ∃ n : Int, cs[i]? = some (.int .u8 n) ∧ 0 ≤ n ∧ n < 256) : ∃ f : Nat → UInt8, cs = arr 32 (bv f) := by
  refine ⟨fun i => match cs[i]? with | some (.int _ n) => UInt8.ofNat n.toNat | _ => 0, ?_⟩
  apply Array.ext_getElem?
  intro i
  by_cases hi : i < 32
  · obtain ⟨n, hn, h0, h1⟩ := h i hi
    rw [arr_get _ _ _ hi, hn]
    unfold bv cb
    dsimp only
    rw [hn]
    simp only [UInt8.toNat_ofNat']
    congr 2
    omega
  · rw [Array.getElem?_eq_none (by omega), Array.getElem?_eq_none (by rw [arr_size]; omega)]
theorem wf_u8 {n : Int} (h : (Lit.int .u8 n).wf = true) : 0 ≤ n ∧ n < 256 := by
  simp [Lit.wf, IntKind.min, IntKind.max, IntKind.signed, IntKind.bits] at h
  omega
theorem trod_bytes {H : Type} {enc : TypeId × Value → H} {P : Program} {W : World} {base : Nat} {sp : Nat → Bool} {held : Bool} {fuel : Nat} {cs : Array Value} {x : DataW H × List MemPlace} {t e : TypeId}
    (ht : P.underlying t = some (.array 32 e)) (he : P.underlying e = some (.int .u8)) (hce : P.cellsOf e = 1) (h : DataW.trod enc P W base sp held fuel t cs.toList = some x) :
    ∀ i, i < 32 → ∃ n : Int, cs[i]? = some (.int .u8 n) ∧ 0 ≤ n ∧ n < 256 := by
  obtain ⟨xs, m, rfl, _, hl, hn, hel⟩ := DataW.trod_array ht h
  intro i hi
  have hei := hel i hi
  rw [List.getElem?_eq_getElem (by omega), hce, Nat.mul_one] at hei
  obtain ⟨n, hc, _, wn⟩ := DataW.trod_int he hei
  refine ⟨n, ?_, wf_u8 wn⟩
  have hc2 := congrArg (fun l => l[0]?) hc
  simpa [List.getElem?_take, List.getElem?_drop] using hc2
theorem cId32 : Tryz.prog.cellsOf 37 = 32 := by kernel_rfl
theorem cU8 : Tryz.prog.cellsOf 5 = 1 := by kernel_rfl
theorem okWide_arr32 {P : Program} {W : World} {r : Reach} {b0 : Nat} {t e : TypeId} {n : Nat} {v : Value} (ht : P.underlying t = some (.array n e)) (h : Value.okWide P W r b0 t v) : ∃ cs : Array Value, v = .agg cs ∧ cs.size = P.cellsOf t := by
  simp only [Value.okWide, ht] at h
  obtain ⟨cs, h1, h2, _⟩ := h
  exact ⟨cs, h1, h2⟩
/- the argument of type 26, an array of 32 bytes by value -/
theorem open_id {H : Type} {enc : TypeId × Value → H} {W : World} {r : Reach} {b0 base : Nat} {sp : Nat → Bool} {held : Bool} {v : Value} {d : DataW H} {ps : List MemPlace}
    (hval : Value.okWide Tryz.prog W r b0 37 v) (hd : DataW.Trod enc Tryz.prog W base sp held 37 v d ps) : ∃ f : Nat → UInt8, v = .agg (arr 32 (bv f)) := by
  obtain ⟨cs, rfl, hsz⟩ := okWide_arr32 Tryz.underlying37 hval
  obtain ⟨fuel, hf⟩ := hd
  obtain ⟨f, hf'⟩ := arr_of cs (hsz.trans cId32) (trod_bytes Tryz.underlying37 Tryz.underlying5 cU8 hf)
  exact ⟨f, by rw [hf']⟩
end Go.Proofs.YtnmjcpoobabjgaaGreatDoor
