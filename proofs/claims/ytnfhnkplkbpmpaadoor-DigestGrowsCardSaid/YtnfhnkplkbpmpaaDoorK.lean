import Derived.Test.YtnfhnkplkbpmpaaDoorRows
import Derived.Test.YtnfhnkplkbpmpaaDoorPb
import Derived.Test.YtnfhnkplkbpmpaaDoorPc
import Derived.ProofKit
import Derived.LaidMore
import Derived.OpenShut
import Derived.Stop.Joined
import Derived.Lib.LaidTab
namespace Go.Proofs.YtnfhnkplkbpmpaaDoor
open Go.ChangeShapes Go.WideShapes Go.ChangeAt Go.RowKit
open Go.ChangeMaps (open_string shut_string)
theorem Tryd.own : ownKnob Tryd.prog.godebug = none := by kernel_rfl
theorem Tryd.laidOut : laidOutB Tryd.prog = true := by kernel_rfl
abbrev laidK : List (String × DataW Unit) := [("sediment/digest.roundWords", Rows.laid_sediment_digest_roundWords)]
theorem gRound : Tryd.prog.globalNamed "sediment/digest.roundWords" = some 0 := by kernel_rfl
theorem tRound : (Tryd.prog.globals[0]?).map (·.type) = some 58 := by kernel_rfl
theorem door_met (os : Os) (args : Array Value) : laidMetH Tryd.prog laidK ((World.doorLaid Tryd.prog 14 os).forCall (fun _ _ => 0) ⟨#[], args, []⟩).memory :=
  laidMetH_of_parts3 (fuel := 8) (laidMet_of_run' 8 (by kernel_rfl) (by kernel_rfl)) (by kernel_rfl) (by kernel_rfl)
def kz : List Int := [1116352408, 1899447441, 3049323471, 3921009573, 961987163, 1508970993, 2453635748, 2870763221, 3624381080, 310598401, 607225278, 1426881987, 1925078388, 2162078206, 2614888103, 3248222580, 3835390401, 4022224774, 264347078, 604807628, 770255983, 1249150122, 1555081692, 1996064986, 2554220882, 2821834349, 2952996808, 3210313671, 3336571891, 3584528711, 113926993, 338241895, 666307205, 773529912, 1294757372, 1396182291, 1695183700, 1986661051, 2177026350, 2456956037, 2730485921, 2820302411, 3259730800, 3345764771, 3516065817, 3600352804, 4094571909, 275423344, 430227734, 506948616, 659060556, 883997877, 958139571, 1322822218, 1537002063, 1747873779, 1955562222, 2024104815, 2227730452, 2361852424, 2428436474, 2756734187, 3204031479, 3329325298]
theorem kz_kk : ∀ i, i < 64 → kz.getD i 0 = U (kk i) := by decide +kernel
theorem of_laid {W : World} (h : laidMetH Tryd.prog laidK W) : ∀ i, i < 64 → W.cell? ⟨0, i, none⟩ = some (wv kk i) := by
  rw [MakeChecks.laidMetH_plain _ _ _ (by kernel_rfl)] at h
  have ht : Lib.TabIs Tryd.prog W "sediment/digest.roundWords" .u32 kz :=
    Lib.tabIs_of_head (rest := []) (g := 0) (t := 58) (e := 30) (n := 64) gRound tRound Tryd.underlying58 Tryd.underlying30 (by kernel_rfl) (by kernel_rfl) h
  intro i hi
  rw [ht.cell gRound i (by show i < 64; exact hi), kz_kk i hi]
  rfl
/- thirty-two byte values as an array -/
theorem arr_of (cs : Array Value) (hsz : cs.size = 32) (h : ∀ i, i < 32 → ∃ n : Int, cs[i]? = some (.int .u8 n) ∧ 0 ≤ n ∧ n < 256) : ∃ f : Nat → UInt8, cs = arr 32 (bv f) := by
  refine ⟨fun i => match cs[i]? with | some (.int _ n) => UInt8.ofNat n.toNat | _ => 0, ?_⟩
  apply Array.ext_getElem?
  intro i
  by_cases hi : i < 32
  · obtain ⟨n, hn, h0, h1⟩ := h i hi
    rw [arr_get _ _ _ hi, hn]
    unfold bv
    dsimp only
    rw [hn]
    simp only [UInt8.toNat_ofNat']
    congr 2
    omega
  · rw [Array.getElem?_eq_none (by omega), Array.getElem?_eq_none (by rw [arr_size]; omega)]
theorem wf_u8 {n : Int} (h : (Lit.int .u8 n).wf = true) : 0 ≤ n ∧ n < 256 := by
  simp [Lit.wf, IntKind.min, IntKind.max, IntKind.signed, IntKind.bits] at h
  omega
theorem trod_bytes {H : Type} {enc : TypeId × Value → H} {P : Program} {W : World} {base : Nat} {sp : Nat → Bool} {held : Bool} {fuel : Nat} {cs : Array Value} {x : DataW H × List MemPlace} {t e : TypeId}
    (ht : P.underlying t = some (.array 32 e)) (he : P.underlying e = some (.int .u8)) (hce : P.cellsOf e = 1) (h : DataW.trod enc P W base sp held fuel t cs.toList = some x) :
    ∀ i, i < 32 → ∃ n : Int, cs[i]? = some (.int .u8 n) ∧ 0 ≤ n ∧ n < 256 := by
  obtain ⟨xs, m, rfl, _, hl, hn, hel⟩ := DataW.trod_array ht h
  intro i hi
  have hei := hel i hi
  rw [List.getElem?_eq_getElem (by omega), hce, Nat.mul_one] at hei
  obtain ⟨n, hc, _, wn⟩ := DataW.trod_int he hei
  refine ⟨n, ?_, wf_u8 wn⟩
  have hc2 := congrArg (fun l => l[0]?) hc
  simpa [List.getElem?_take, List.getElem?_drop] using hc2
theorem c26 : Tryd.prog.cellsOf 26 = 32 := by kernel_rfl
theorem c5 : Tryd.prog.cellsOf 5 = 1 := by kernel_rfl
theorem okWide_arr32 {P : Program} {W : World} {r : Reach} {b0 : Nat} {t e : TypeId} {n : Nat} {v : Value} (ht : P.underlying t = some (.array n e)) (h : Value.okWide P W r b0 t v) : ∃ cs : Array Value, v = .agg cs ∧ cs.size = P.cellsOf t := by
  simp only [Value.okWide, ht] at h
  obtain ⟨cs, h1, h2, _⟩ := h
  exact ⟨cs, h1, h2⟩
/- the argument of type 26, an array of 32 bytes by value -/
theorem open_id {H : Type} {enc : TypeId × Value → H} {W : World} {r : Reach} {b0 base : Nat} {sp : Nat → Bool} {held : Bool} {v : Value} {d : DataW H} {ps : List MemPlace}
    (hval : Value.okWide Tryd.prog W r b0 26 v) (hd : DataW.Trod enc Tryd.prog W base sp held 26 v d ps) : ∃ f : Nat → UInt8, v = .agg (arr 32 (bv f)) := by
  obtain ⟨cs, rfl, hsz⟩ := okWide_arr32 Tryd.underlying26 hval
  obtain ⟨fuel, hf⟩ := hd
  obtain ⟨f, hf'⟩ := arr_of cs (hsz.trans c26) (trod_bytes Tryd.underlying26 Tryd.underlying5 c5 hf)
  exact ⟨f, by rw [hf']⟩
end Go.Proofs.YtnfhnkplkbpmpaaDoor
