import Derived.WalkKit
import Derived.WalkSpells
import Derived.WalkSmall
import Derived.Deep.Draws
import Derived.Deep.MidRow
import Derived.Laws.CopyOwn
import Derived.Laws.BitsAllLaws
import Derived.Laws.Shifts
import Derived.Lib.SliceRun
import Derived.StillTailTactics
import Derived.Test.YtnmjcpoobabjgaaGreatDoorProg
import Derived.WalkLawsBesides
import Derived.Lib.Hide
import Derived.Deep.WholeRow
import Derived.Deep.Cut
import Derived.Test.YtnmjcpoobabjgaaGreatDoorFfm
import Derived.Deep.QuietTactic
import Derived.BigQuiet
set_option linter.unusedVariables false
set_option linter.unusedSimpArgs false
namespace Go.Proofs.YtnmjcpoobabjgaaGreatDoor.Cr
open Go.RowKit
/- n values as a function tells them -/
def arr (n : Nat) (f : Nat → Value) : Array Value := Array.ofFn (fun i : Fin n => f i)
theorem arr_size (n : Nat) (f : Nat → Value) : (arr n f).size = n := by simp [arr]
theorem arr_congr {n : Nat} {f g : Nat → Value} (h : ∀ i, i < n → f i = g i) : arr n f = arr n g := by
  unfold arr
  apply Array.ext
  · simp
  · intro i h1 h2
    simp at h1
    simp [h i h1]
theorem arr_get (n : Nat) (f : Nat → Value) (i : Nat) (h : i < n) : (arr n f)[i]? = some (f i) := by simp [arr, h]
/- a block of n cells that reads as a function -/
def Blk (w : World) (b : Nat) (E : TypeId) (n : Nat) (f : Nat → Value) : Prop :=
  w.heap[b]? = some (.cells (arr n f) E (0, 0))

theorem Blk.lt {w : World} {b E n f} (h : Blk w b E n f) : b < w.heap.size := by
  unfold Blk at h
  by_cases hlt : b < w.heap.size
  · exact hlt
  · have hn : w.heap[b]? = none := by simp; omega
    rw [hn] at h; cases h
theorem Blk.cell {w : World} {b E n f} (h : Blk w b E n f) (i : Nat) (hi : i < n) : w.cell? ⟨b, i, none⟩ = some (f i) := by
  rw [cell_of_row w b i _ E _ h]
  exact arr_get n f i hi
theorem Blk.frozen {w : World} {b E n f} (h : Blk w b E n f) (i : Nat) : w.frozen? ⟨b, i, none⟩ = false :=
  frozen_of_row w b i _ E h
theorem Blk.congr {w : World} {b E n f g} (h : Blk w b E n f) (hfg : ∀ i, i < n → f i = g i) : Blk w b E n g := by
  unfold Blk at *
  rw [h, arr_congr hfg]
theorem Blk.set {w : World} {b E n f} (h : Blk w b E n f) (i : Nat) (v : Value) : Blk (w.setCell ⟨b, i, none⟩ v) b E n (fun j => if j = i then v else f j) := by
  unfold Blk at *
  rw [heap_setCell_same w b i _ E v h]
  congr 2
  unfold arr
  apply Array.ext
  · simp
  · intro j h1 h2
    simp at h1
    rw [Array.getElem_setIfInBounds (by simpa using h1)]
    simp only [Array.getElem_ofFn]
    by_cases e : i = j
    · subst e; simp
    · rw [if_neg e, if_neg (fun e' => e e'.symm)]
theorem Blk.setOther {w : World} {b E n f} (h : Blk w b E n f) (a : Addr) (v : Value) (ha : a.block ≠ b) : Blk (w.setCell a v) b E n f := by
  unfold Blk at *
  rw [heap_setCell_other w a b v (fun e => ha e.symm)]; exact h
theorem Blk.alloc {w : World} {b E n f} (h : Blk w b E n f) (o : Obj) : Blk (w.alloc o) b E n f := by
  have hl := h.lt
  unfold Blk at *
  show (w.heap.push o)[b]? = _
  rw [Array.getElem?_push, if_neg (Nat.ne_of_lt hl)]; exact h
theorem Blk.drew {w : World} {b E n f} (h : Blk w b E n f) : Blk w.drew b E n f := h
theorem Blk.drewN {w : World} {b E n f} (h : Blk w b E n f) (q : Nat) : Blk (w.drewN q) b E n f := by
  unfold Blk at *; simpa using h
theorem Blk.below {w w' : World} {B b E n f} (h : Blk w b E n f) (hb : Below B w w') (hlt : b < B) : Blk w' b E n f := by
  unfold Blk at *
  rw [hb.block b hlt]; exact h
theorem Blk.new (w : World) (cs : Array Value) (E : TypeId) (n : Nat) (f : Nat → Value) (hc : cs = arr n f) : Blk (w.alloc (.cells cs E)) w.heap.size E n f := by
  unfold Blk
  rw [heap_alloc_new, hc]
theorem Blk.newAt {w : World} {b : Nat} {cs : Array Value} {E : TypeId} {n : Nat} (f : Nat → Value) (h : w.heap[b]? = some (.cells cs E (0,0))) (hc : cs = arr n f) : Blk w b E n f := by
  unfold Blk
  rw [h, hc]
theorem Blk.setRow {w : World} {b E n f} (h : Blk w b E n f) (g : Nat → Value) : Blk (w.setRow b (arr n g)) b E n g := by
  unfold Blk at *
  exact setRow_heap w b _ _ E _ h
theorem Blk.setRowOther {w : World} {b E n f} (h : Blk w b E n f) (k : Nat) (cs : Array Value) (hk : k ≠ b) : Blk (w.setRow k cs) b E n f := by
  unfold Blk at *
  rw [setRow_other w k b cs (fun e => hk e.symm)]; exact h
theorem Blk.range {w : World} {b E n f} (h : Blk w b E n f) (o m : Nat) (hm : o + m ≤ n) : w.rangeAt b o (arr m (fun i => f (o + i))).toList := by
  intro j v hv
  have hj : j < m := by
    have := (List.getElem?_eq_some_iff.1 hv).1
    simpa [arr_size] using this
  have e : (arr m (fun i => f (o + i))).toList[j]? = some (f (o + j)) := by
    rw [Array.getElem?_toList]; exact arr_get _ _ _ hj
  rw [e] at hv
  cases hv
  exact h.cell _ (by omega)
theorem Blk.there {w : World} {b E n f} (h : Blk w b E n f) (o m : Nat) (hm : o + m ≤ n) : w.there b o m := fun j hj =>
  ⟨by rw [h.cell _ (by omega)]; rfl, h.frozen _⟩

section
variable {P : Program}
theorem wpList_load_blk {ops : Array Oper} {rest : List Oper} {o : Oper} {a : Act} {w : World} {Q : Exit → Act → World → Prop} (hgd : o.guard = none) (ty : TypeId) (x : Operand) (ho : o.op = .load ty x)
    (g : Nat) (hx : a.eval x = .pointer (some ⟨g, 0, none⟩)) (E : TypeId) (n : Nat) (f : Nat → Value) (hB : Blk w g E n f) (d : TypeDesc)
    (hu : P.underlying ty = some d) (hd : (match d with | .struct _ | .array _ _ => true | _ => false) = true) (hi : (P.info? ty).map (·.size) = some n)
    (h : wpList P ops Q rest (a.put o.dst (.agg (arr n f))) w) : wpList P ops Q (o :: rest) a w :=
  wpList_load_row hgd ty x ho g hx E (arr n f) (0, 0) d hB hu hd (by rw [arr_size]; exact hi) h
theorem wpList_store_blk {ops : Array Oper} {rest : List Oper} {o : Oper} {a : Act} {w : World} {Q : Exit → Act → World → Prop} (hgd : o.guard = none) (ty : TypeId) (x y : Operand) (ho : o.op = .store ty x y)
    (g : Nat) (n : Nat) (f fo : Nat → Value) (hx : a.eval x = .pointer (some ⟨g, 0, none⟩)) (hy : a.eval y = .agg (arr n f)) (E : TypeId) (hB : Blk w g E n fo)
    (hi : (P.info? ty).map (·.size) = some n) (h1 : ∀ i, i < n → (f i).oneCell' = true)
    (h : wpList P ops Q rest (a.put o.dst undef) (w.setRow g (arr n f))) : wpList P ops Q (o :: rest) a w :=
  wpList_store_row hgd ty x y ho g (arr n f) hx hy E (arr n fo) hB (by rw [arr_size]; exact hi) (by rw [arr_size, arr_size])
    (Array.all_eq_true_iff_forall_mem.2 (fun v hv => by
      unfold arr at hv
      rw [Array.mem_ofFn] at hv
      obtain ⟨i, rfl⟩ := hv
      exact h1 i i.isLt)) h
theorem results_blk {fn : Func} {p : Tmp} {ty : TypeId} (h : fn.results = #[.cell p ty]) (tmps : Array Value) (w : World) (g : Nat) (E : TypeId) (n : Nat) (f : Nat → Value) (hB : Blk w g E n f) (d : TypeDesc)
    (hp : tmps.getD p undef = .pointer (some ⟨g, 0, none⟩))
    (hu : P.underlying ty = some d) (hd : (match d with | .struct _ | .array _ _ => true | _ => false) = true) (hi : (P.info? ty).map (·.size) = some n) :
    (results fn tmps).run P w = .ok (.agg (arr n f)) w :=
  results_cell_row h tmps w g E (arr n f) (0, 0) d hp hB hu hd (by rw [arr_size]; exact hi)
end
end Go.Proofs.YtnmjcpoobabjgaaGreatDoor.Cr
namespace Go.Proofs.YtnmjcpoobabjgaaGreatDoor.Cr
/- plain mathematics: 32-bit words, steps, feeding -/
abbrev W32 := BitVec 32
def U (x : W32) : Int := (x.toNat : Int)
theorem U_ge (x : W32) : 0 ≤ U x := by unfold U; omega
theorem U_lt (x : W32) : U x < 4294967296 := by unfold U; have := x.isLt; omega
theorem U_xor (x y : W32) : bits .xor .u32 (U x) (U y) = U (x ^^^ y) := by
  unfold U; rw [u32_xor_nat _ _ (by have := x.isLt; omega) (by have := y.isLt; omega), BitVec.toNat_xor]
theorem U_and (x y : W32) : bits .and .u32 (U x) (U y) = U (x &&& y) := by
  unfold U; rw [u32_and_nat _ _ (by have := x.isLt; omega) (by have := y.isLt; omega), BitVec.toNat_and]
theorem U_shr (x : W32) (n : Nat) : U x / 2 ^ n = U (x >>> n) := by
  unfold U; rw [BitVec.toNat_ushiftRight, Nat.shiftRight_eq_div_pow, Int.natCast_ediv, Int.natCast_pow]; rfl
theorem U_shrm (x : W32) (n : Nat) : (U x >>> n) = U (x >>> n) := by
  rw [Int.shiftRight_eq_div_pow, ← U_shr, Int.natCast_pow]; rfl
theorem U_shr1 (x : W32) : U x / (2 : Int) = U (x >>> 1) := U_shr x 1
theorem U_shr4 (x : W32) : U x / (16 : Int) = U (x >>> 4) := U_shr x 4
theorem U_not (x : W32) : bits .xor .u32 (if IntKind.u32.signed = true then -1 else IntKind.u32.max) (U x) = U (~~~x) := by
  have e : (if IntKind.u32.signed = true then (-1 : Int) else IntKind.u32.max) = U (BitVec.allOnes 32) := by rfl
  rw [e, U_xor]
  congr 1
theorem U_neg (x : W32) : (4294967295 : Int) - U x = U (~~~x) := by
  unfold U
  rw [BitVec.toNat_not]
  have := x.isLt
  omega
theorem U_and15 (x : W32) : bits .and .u32 (U x) 15 = ((x.toNat % 16 : Nat) : Int) := by
  have e : (15 : Int) = U 15#32 := rfl
  rw [e, U_and]
  unfold U
  rw [BitVec.toNat_and]
  have h : (15#32 : W32).toNat = 2 ^ 4 - 1 := rfl
  rw [h, Nat.and_two_pow_sub_one_eq_mod]
def X8 (b : UInt8) : W32 := b.toBitVec.setWidth 32
theorem U_X8 (b : UInt8) : ((b.toNat : Nat) : Int) = U (X8 b) := by
  unfold U X8
  rw [BitVec.toNat_setWidth]
  have := b.toNat_lt
  show ((b.toBitVec.toNat : Nat) : Int) = _
  have h2 : b.toBitVec.toNat = b.toNat := rfl
  rw [h2, Nat.mod_eq_of_lt (by omega)]
theorem U_w8 (b : UInt8) : IntKind.u32.wrap ((b.toNat : Nat) : Int) = U (X8 b) := by
  rw [U_X8, IntKind.wrap_u32']; have := U_ge (X8 b); have := U_lt (X8 b); omega
/- the polynomial, and a step -/
def pol : W32 := 0xedb88320#32
def odd (x : W32) : Bool := x.getLsbD 0
def stp (x : W32) : W32 := if odd x then x >>> 1 ^^^ pol else x >>> 1
theorem xor4 (a b c : W32) : (a ^^^ c) ^^^ (b ^^^ c) = a ^^^ b := by
  rw [BitVec.xor_assoc, BitVec.xor_comm b c, ← BitVec.xor_assoc c c b, BitVec.xor_self, BitVec.zero_xor]
theorem stp_xor (a b : W32) : stp (a ^^^ b) = stp a ^^^ stp b := by
  have ho : odd (a ^^^ b) = (odd a).xor (odd b) := by unfold odd; rw [BitVec.getLsbD_xor]
  unfold stp
  rw [ho, BitVec.ushiftRight_xor_distrib]
  cases odd a <;> cases odd b <;> simp only [Bool.false_xor, Bool.true_xor, Bool.not_true, Bool.not_false, if_true, if_false, Bool.false_eq_true]
  · rw [BitVec.xor_assoc]
  · rw [BitVec.xor_assoc, BitVec.xor_comm (b >>> 1) pol, ← BitVec.xor_assoc]
  · rw [xor4]
def stps : Nat → W32 → W32
  | 0, x => x
  | n + 1, x => stp (stps n x)
theorem stps_add (n m : Nat) (x : W32) : stps (n + m) x = stps n (stps m x) := by
  induction n with
  | zero => rw [Nat.zero_add]; rfl
  | succ k ih => rw [Nat.succ_add]; show stp _ = stp _; rw [ih]
theorem stps_xor (n : Nat) (a b : W32) : stps n (a ^^^ b) = stps n a ^^^ stps n b := by
  induction n with
  | zero => rfl
  | succ k ih => show stp _ = stp _ ^^^ stp _; rw [ih, stp_xor]
/- a step in numbers -/
theorem odd_mod (x : W32) : odd x = decide (x.toNat % 2 = 1) := by
  unfold odd
  rw [← BitVec.testBit_toNat, Nat.testBit_zero]
theorem U_mod2 (x : W32) : U x % 2 = if odd x then 1 else 0 := by
  unfold U
  rw [odd_mod]
  by_cases c : x.toNat % 2 = 1
  · rw [decide_eq_true c, if_pos rfl]; omega
  · rw [decide_eq_false c, if_neg (by simp)]; omega
theorem U_xorP (x : W32) : bits .xor .u32 (U x) 3988292384 = U (x ^^^ pol) := by
  have e : (3988292384 : Int) = U pol := rfl
  rw [e, U_xor]
/- a byte is fed -/
def feed (x : W32) (b : UInt8) : W32 := stps 8 (x ^^^ X8 b)
/- the table -/
def hbl : List W32 := [0x00000000#32, 0x1db71064#32, 0x3b6e20c8#32, 0x26d930ac#32, 0x76dc4190#32, 0x6b6b51f4#32, 0x4db26158#32, 0x5005713c#32, 0xedb88320#32, 0xf00f9344#32, 0xd6d6a3e8#32, 0xcb61b38c#32, 0x9b64c2b0#32, 0x86d3d2d4#32, 0xa00ae278#32, 0xbdbdf21c#32]
def hb (i : Nat) : W32 := hbl.getD i 0#32
theorem hb_stps : ∀ i, i < 16 → stps 4 (BitVec.ofNat 32 i) = hb i := by decide +kernel
theorem stp_even {x : W32} (h : odd x = false) : stp x = x >>> 1 := by
  unfold stp; rw [h]; rfl
theorem stps4_shl (y : W32) : stps 4 (y >>> 4 <<< 4) = y >>> 4 := by
  have o : ∀ k, k < 4 → odd ((y >>> 4 <<< 4) >>> k) = false := by
    intro k hk
    unfold odd
    rw [BitVec.getLsbD_ushiftRight, BitVec.getLsbD_shiftLeft]
    simp
    intro h; omega
  have s1 : stp (y >>> 4 <<< 4) = (y >>> 4 <<< 4) >>> 1 := stp_even (by have := o 0 (by omega); simpa using this)
  have s2 : stp ((y >>> 4 <<< 4) >>> 1) = (y >>> 4 <<< 4) >>> 2 := by rw [stp_even (o 1 (by omega)), ← BitVec.shiftRight_add]
  have s3 : stp ((y >>> 4 <<< 4) >>> 2) = (y >>> 4 <<< 4) >>> 3 := by rw [stp_even (o 2 (by omega)), ← BitVec.shiftRight_add]
  have s4 : stp ((y >>> 4 <<< 4) >>> 3) = (y >>> 4 <<< 4) >>> 4 := by rw [stp_even (o 3 (by omega)), ← BitVec.shiftRight_add]
  show stp (stp (stp (stp (y >>> 4 <<< 4)))) = _
  rw [s1, s2, s3, s4]
  apply BitVec.eq_of_getLsbD_eq
  intro i hi
  rw [BitVec.getLsbD_ushiftRight, BitVec.getLsbD_shiftLeft, BitVec.getLsbD_ushiftRight, BitVec.getLsbD_ushiftRight]
  by_cases c : 4 + i < 32
  · simp [c]
  · rw [BitVec.getLsbD_of_ge y (4 + i) (by omega)]; simp [c]
theorem split4 (y : W32) : y = BitVec.ofNat 32 (y.toNat % 16) ^^^ (y >>> 4 <<< 4) := by
  have e : BitVec.ofNat 32 (y.toNat % 16) = y &&& 15#32 := by
    apply BitVec.eq_of_toNat_eq
    rw [BitVec.toNat_and, BitVec.toNat_ofNat]
    have h : (15#32 : W32).toNat = 2 ^ 4 - 1 := rfl
    rw [h, Nat.and_two_pow_sub_one_eq_mod]
    omega
  rw [e]
  have m : ∀ i, i < 32 → (15#32 : W32).getLsbD i = decide (i < 4) := by decide
  apply BitVec.eq_of_getLsbD_eq
  intro i hi
  rw [BitVec.getLsbD_xor, BitVec.getLsbD_and, BitVec.getLsbD_shiftLeft, BitVec.getLsbD_ushiftRight, m i hi]
  by_cases c : i < 4
  · simp [c]
  · simp [c, hi, show 4 + (i - 4) = i by omega]
def half (y : W32) : W32 := hb (y.toNat % 16) ^^^ y >>> 4
theorem half_stps (y : W32) : half y = stps 4 y := by
  have h : stps 4 y = stps 4 (BitVec.ofNat 32 (y.toNat % 16) ^^^ (y >>> 4 <<< 4)) := congrArg (stps 4) (split4 y)
  rw [h, stps_xor, hb_stps _ (Nat.mod_lt _ (by decide)), stps4_shl]
  rfl
theorem half_feed (x : W32) (b : UInt8) : half (half (x ^^^ X8 b)) = feed x b := by
  rw [half_stps, half_stps, ← stps_add]
  rfl
/- a text is fed: its first n bytes, as a function tells them -/
def feeds (x : W32) (f : Nat → UInt8) : Nat → W32
  | 0 => x
  | n + 1 => feed (feeds x f n) (f n)
def ones : W32 := 0xffffffff#32
def sumF (f : Nat → UInt8) (n : Nat) : W32 := ~~~feeds ones f n
theorem feeds_congr {f g : Nat → UInt8} {n : Nat} (h : ∀ i, i < n → f i = g i) (x : W32) : feeds x f n = feeds x g n := by
  induction n with
  | zero => rfl
  | succ k ih =>
    show feed _ _ = feed _ _
    rw [ih (fun i hi => h i (by omega)), h k (by omega)]
theorem sumF_congr {f g : Nat → UInt8} {n : Nat} (h : ∀ i, i < n → f i = g i) : sumF f n = sumF g n := by
  unfold sumF; rw [feeds_congr h]
theorem feeds_add (x : W32) (f g : Nat → UInt8) (n m : Nat) (h : ∀ i, i < m → f (n + i) = g i) : feeds x f (n + m) = feeds (feeds x f n) g m := by
  induction m with
  | zero => rfl
  | succ k ih =>
    show feed (feeds x f (n + k)) (f (n + k)) = feed _ _
    rw [ih (fun i hi => h i (by omega)), h k (by omega)]
theorem not_not' (x : W32) : ~~~(~~~x) = x := BitVec.not_not
/- sums that are joined -/
end Go.Proofs.YtnmjcpoobabjgaaGreatDoor.Cr
namespace Go.Proofs.YtnmjcpoobabjgaaGreatDoor.Cr
open Go.RowKit
def wv (f : Nat → W32) (i : Nat) : Value := .int .u32 (U (f i))
def bv (f : Nat → UInt8) (i : Nat) : Value := .int .u8 ((f i).toNat : Int)
theorem Blk.setCells {b E n : Nat} : ∀ (vs : List Value) (o : Nat) (w : World) (f : Nat → Value), Blk w b E n f → 
    Blk (w.setCells b o vs) b E n (fun i => if o ≤ i ∧ i < o + vs.length then vs.getD (i - o) undef else f i)
  | [], o, w, f, h => by
    refine Blk.congr (f := f) h fun i hi => ?_
    rw [if_neg (fun e => by simp at e; omega)]
  | v :: r, o, w, f, h => by
    refine (Blk.setCells r (o + 1) _ _ (h.set o v)).congr fun i hi => ?_
    by_cases e : i = o
    · subst e
      rw [if_neg (by omega), if_pos rfl, if_pos (by simp)]; simp
    · by_cases e2 : o + 1 ≤ i ∧ i < o + 1 + r.length
      · rw [if_pos e2, if_pos (by simp; omega)]
        obtain ⟨m, rfl⟩ : ∃ m, i = o + 1 + m := ⟨i - (o + 1), by omega⟩
        rw [show o + 1 + m - (o + 1) = m by omega, show o + 1 + m - o = m + 1 by omega]
        simp
      · rw [if_neg e2, if_neg e, if_neg (by simp; omega)]
theorem setCells_grown (b : Nat) : ∀ (vs : List Value) (o : Nat) (w : World), w.grownBy (w.setCells b o vs) (some b)
  | [], o, w => ⟨rfl, rfl, rfl, Nat.le_refl _, fun _ _ _ => rfl⟩
  | v :: r, o, w => by
    have h := setCells_grown b r (o + 1) (w.setCell ⟨b, o, none⟩ v)
    exact ⟨h.os, h.tape, h.output, by have := h.size; rw [World.size_setCell] at this; exact this, fun k hk hne => by
      rw [show w.setCells b o (v :: r) = (w.setCell ⟨b, o, none⟩ v).setCells b (o + 1) r from rfl, h.block k (by simpa using hk) hne]
      exact heap_setCell_other w _ k v (fun e => hne (by rw [e]))⟩
theorem grown_refl (w : World) (r : Option Nat) : w.grownBy w r := ⟨rfl, rfl, rfl, Nat.le_refl _, fun _ _ _ => rfl⟩
theorem grown_trans {a b c : World} {r : Option Nat} (h : a.grownBy b r) (k : b.grownBy c r) : a.grownBy c r :=
  ⟨k.os.trans h.os, k.tape.trans h.tape, k.output.trans h.output, Nat.le_trans h.size k.size, fun i hi hne => (k.block i (Nat.lt_of_lt_of_le hi h.size) hne).trans (h.block i hi hne)⟩
theorem grown_below {a b : World} (h : Below a.heap.size a b) (r : Option Nat) : a.grownBy b r :=
  ⟨h.os, h.tape, h.output, h.size, fun i hi _ => h.block i hi⟩
theorem grown_drewN (w : World) (n : Nat) (r : Option Nat) : w.grownBy (w.drewN n) r := ⟨rfl, rfl, rfl, Nat.le_refl _, fun _ _ _ => rfl⟩
theorem grown_setCell (w : World) (b o : Nat) (v : Value) : w.grownBy (w.setCell ⟨b, o, none⟩ v) (some b) := setCells_grown b [v] o w
theorem below_grown {B hb : Nat} {w0 w w' : World} (h : Below B w0 w) (hg : w.grownBy w' (some hb)) (hB : B ≤ w.heap.size) (hhb : B ≤ hb) : Below B w0 w' :=
  h.grown hg hB (fun k hk => by cases hk; exact hhb)
theorem Blk.grown {w w' : World} {b hb E n f} (h : Blk w b E n f) (hg : w.grownBy w' (some hb)) (hne : b ≠ hb) : Blk w' b E n f := by
  have hl := h.lt
  unfold Blk at *
  rw [hg.block b hl (by simp [hne])]; exact h
theorem cell_grown {w w' : World} {hb : Nat} {a : Addr} {v : Value} (hg : w.grownBy w' (some hb)) (h : w.cell? a = some v) (hne : a.block ≠ hb) : w'.cell? a = some v :=
  hg.cell h (by simp [hne])
section
variable {P : Program}
/- x[i] of an array by value -/
theorem run_index_arr (w : World) (ty elem : TypeId) (n : Nat) (f : Nat → Value) (k : IntKind) (i : Nat) (hu : P.underlying ty = some (.array n elem)) (hs : (P.info? elem).map (·.size) = some 1)
    (ha : P.underlying elem = some (.int .u32)) (hi : i < n) :
    (Instr.index ty (.agg (arr n f)) (.int k (i : Int))).run P w = .ok (f i) w := by
  cases hq : P.info? elem with
  | none => simp [hq] at hs
  | some d =>
    have hd : d.size = 1 := by simpa [hq] using hs
    have hagg : (isAgg elem).run P w = .ok false w := by
      unfold isAgg
      rw [Sem.run_bind, run_underlying ha w]; rfl
    have hp : (part elem (arr n f) i).run P w = .ok (f i) w := by
      unfold part
      rw [Sem.run_bind, hagg]
      simp [arr_get n f i hi]
    have hai : (asIntOf (.int k (i : Int))).run P w = .ok (k, (i : Int)) w := rfl
    simp [Instr.index, run_underlying hu, sizeOf, typeInfo, hq, hd, hi, hai, hp]
theorem oneCell_arr {n : Nat} {f : Nat → Value} (h : ∀ i, i < n → (f i).oneCell' = true) : (arr n f).all (·.oneCell') = true :=
    Array.all_eq_true_iff_forall_mem.2 (fun v hv => by
      unfold arr at hv
      rw [Array.mem_ofFn] at hv
      obtain ⟨i, rfl⟩ := hv
      exact h i i.isLt)
end
end Go.Proofs.YtnmjcpoobabjgaaGreatDoor.Cr
namespace Go.Proofs.YtnmjcpoobabjgaaGreatDoor.Cr
open Go.RowKit
def sAt (t : ByteArray) (j : Nat) : UInt8 := t.data.toList.getD j 0
/- a text of n bytes as a function tells them -/
def strL (n : Nat) (f : Nat → UInt8) : List UInt8 := (List.range n).map f
theorem strL_length (n : Nat) (f : Nat → UInt8) : (strL n f).length = n := by simp [strL]
theorem strL_get (n : Nat) (f : Nat → UInt8) (i : Nat) (h : i < (strL n f).length) : (strL n f)[i] = f i := by simp [strL]
theorem strL_succ (n : Nat) (f : Nat → UInt8) : strL (n + 1) f = strL n f ++ [f n] := by simp [strL, List.range_succ]
theorem strL_add (n m : Nat) (f : Nat → UInt8) : strL (n + m) f = strL n f ++ strL m (fun i => f (n + i)) := by
  induction m with
  | zero => simp [strL]
  | succ m ih => rw [← Nat.add_assoc, strL_succ, ih, strL_succ, List.append_assoc]
theorem strL_congr {n : Nat} {f g : Nat → UInt8} (h : ∀ i, i < n → f i = g i) : strL n f = strL n g := by
  unfold strL
  apply List.map_congr_left
  intro i hi
  exact h i (List.mem_range.1 hi)
def str (n : Nat) (f : Nat → UInt8) : ByteArray := ⟨(strL n f).toArray⟩
theorem str_size (n : Nat) (f : Nat → UInt8) : (str n f).size = n := by
  show (strL n f).toArray.size = n
  rw [List.size_toArray, strL_length]
theorem str_self (s : ByteArray) : s = str s.size (sAt s) := by
  have e : s.data.toList = strL s.size (sAt s) := by
    apply List.ext_getElem
    · rw [strL_length, Array.length_toList]; rfl
    · intro i h1 h2
      rw [strL_get]
      unfold sAt
      rw [List.getD_eq_getElem?_getD, List.getElem?_eq_getElem h1]; rfl
  apply ByteArray.ext
  show s.data = (strL s.size (sAt s)).toArray
  rw [← e, Array.toArray_toList]
theorem str_at (n : Nat) (f : Nat → UInt8) (i : Nat) (h : i < n) : sAt (str n f) i = f i := by
  unfold sAt str
  rw [List.getD_eq_getElem?_getD, List.toList_toArray, List.getElem?_eq_getElem (by rw [strL_length]; exact h), strL_get]; rfl
theorem str_push (n : Nat) (f : Nat → UInt8) (c : UInt8) (h : f n = c) : str n f ++ ⟨#[c]⟩ = str (n + 1) f := by
  unfold str
  rw [strL_succ, h]
  exact ByteArray.mk_append_mk _ [c]
theorem str_add (n m : Nat) (f g : Nat → UInt8) (h : ∀ i, i < m → f (n + i) = g i) : str n f ++ str m g = str (n + m) f := by
  unfold str
  rw [strL_add, strL_congr h]
  exact ByteArray.mk_append_mk _ _
theorem str_congr {n : Nat} {f g : Nat → UInt8} (h : ∀ i, i < n → f i = g i) : str n f = str n g := by unfold str; rw [strL_congr h]
/- how many bytes the first k parts have -/
def offs (ss : Nat → ByteArray) : Nat → Nat
  | 0 => 0
  | k + 1 => offs ss k + (ss k).size
theorem offs_mono (ss : Nat → ByteArray) {a b : Nat} (h : a ≤ b) : offs ss a ≤ offs ss b := by
  induction h with
  | refl => exact Nat.le_refl _
  | step _ ih => exact Nat.le_trans ih (Nat.le_add_right _ _)
/- the parts as a text: byte i of all parts, one behind the other -/
def joinF (ss : Nat → ByteArray) : Nat → Nat → UInt8
  | 0, _ => 0
  | k + 1, i => if i < offs ss k then joinF ss k i else sAt (ss k) (i - offs ss k)
theorem joinF_parts (ss : Nat → ByteArray) (len i j : Nat) (hi : i < len) (hj : j < (ss i).size) : sAt (ss i) j = joinF ss len (offs ss i + j) := by
  induction len with
  | zero => omega
  | succ k ih =>
    unfold joinF
    by_cases c : i < k
    · have h1 := offs_mono ss (show i + 1 ≤ k by omega)
      have h2 : offs ss (i + 1) = offs ss i + (ss i).size := rfl
      rw [if_pos (by omega)]
      exact ih c
    · have e : i = k := by omega
      subst e
      rw [if_neg (by omega), show offs ss i + j - offs ss i = j by omega]
/- what an argument slice of strings says -/
def Strs (w : World) (v : Value) (ss : Nat → ByteArray) (len : Nat) : Prop :=
  (∃ ad cap, v = .slice ad 0 cap ∧ len = 0) ∨ (∃ b o cap, v = .slice (some ⟨b, o, none⟩) len cap ∧ 0 < len ∧ b < w.heap.size ∧ ∀ i, i < len → w.cell? ⟨b, o + i, none⟩ = some (.string (ss i)))
/- more parts than 40, or a part of more than 1000 bytes -/
theorem strs_addr {w : World} {v : Value} {ss : Nat → ByteArray} {len : Nat} (h : Strs w v ss len) : ∃ ad cap, v = .slice ad len cap ∧ (0 < len → ∃ b o, ad = some ⟨b, o, none⟩ ∧ b < w.heap.size ∧ ∀ i, i < len → w.cell? ⟨b, o + i, none⟩ = some (.string (ss i))) := by
  rcases h with ⟨ad, cap, rfl, rfl⟩ | ⟨b, o, cap, rfl, h0, hb, hc⟩
  · exact ⟨ad, cap, rfl, fun h => absurd h (by omega)⟩
  · exact ⟨_, cap, rfl, fun _ => ⟨b, o, rfl, hb, hc⟩⟩
theorem sAt_ext (s : ByteArray) (a b j : Nat) (h1 : a ≤ b) (h2 : b ≤ s.size) (hj : j < b - a) : sAt (s.extract a b) j = sAt s (a + j) := by
  have hs : s.data.size = s.size := rfl
  unfold sAt
  rw [ByteArray.data_extract, List.getD_eq_getElem?_getD, List.getD_eq_getElem?_getD, Array.getElem?_toList, Array.getElem?_toList, Array.getElem?_extract_of_lt (by omega), Array.getElem?_eq_getElem (show a + j < s.data.size by omega)]
theorem size_ext (s : ByteArray) (a b : Nat) (h1 : a ≤ b) (h2 : b ≤ s.size) : (s.extract a b).size = b - a := by
  rw [ByteArray.size_extract]; omega
theorem strs_new (W : World) (cs : Array Value) (E : TypeId) (ss : Nat → ByteArray) (n b : Nat) (hb : b = W.heap.size) (hn : 0 < n) (hc : ∀ i, i < n → cs[i]? = some (.string (ss i))) :
    Strs (W.alloc (.cells cs E)) (.slice (some ⟨b, 0, none⟩) n n) ss n := Or.inr ⟨b, 0, n, rfl, hn, by subst hb; simp, fun i hi => by
  subst hb
  rw [cell_of_row _ _ _ _ _ _ (heap_alloc_new W _), Nat.zero_add]; exact hc i hi⟩
theorem Strs.alloc {W : World} {v : Value} {ss : Nat → ByteArray} {n : Nat} (h : Strs W v ss n) (o : Obj) : Strs (W.alloc o) v ss n := by
  rcases h with h | ⟨b, k, cap, h1, h2, h3, h4⟩
  · exact Or.inl h
  · exact Or.inr ⟨b, k, cap, h1, h2, by simp; omega, fun i hi => by
      have hh : (w : World) → Below W.heap.size W (W.alloc o) := fun _ => (Below.refl _ _).alloc (Nat.le_refl _) _
      rw [(hh W).cell h3]; exact h4 i hi⟩
theorem Strs.below {W W' : World} {v : Value} {ss : Nat → ByteArray} {n : Nat} (h : Strs W v ss n) (hb : Below W.heap.size W W') : Strs W' v ss n := by
  rcases h with h | ⟨b, k, cap, h1, h2, h3, h4⟩
  · exact Or.inl h
  · exact Or.inr ⟨b, k, cap, h1, h2, Nat.lt_of_lt_of_le h3 hb.size, fun i hi => by rw [hb.cell h3]; exact h4 i hi⟩
end Go.Proofs.YtnmjcpoobabjgaaGreatDoor.Cr
namespace Go.Proofs.YtnmjcpoobabjgaaGreatDoor.Cr
open Go.RowKit
attribute [local go_sem] U_xor U_xorP U_shrm U_shr1 U_shr4 U_not U_neg U_w8
set_option maxHeartbeats 400000 in
theorem step_any (x : W32) (w : World) :
    Calls Tryz.prog 102 #[.int .u32 (U x)] w fun e w' => e = .returned (.int .u32 (U (stp x))) ∧ w = w' := by
  have m := U_mod2 x
  have l0 := U_ge x
  have l1 := U_lt x
  cases h : odd x
  · have e : stp x = x >>> 1 := stp_even h
    rw [h] at m
    simp only [Bool.false_eq_true, if_false] at m
    have m2 : (U x).tmod 2 = 0 := by rw [Int.tmod_eq_emod_of_nonneg l0]; exact m
    rw [e]
    clear e h
    go_enter Tryz.func102, Tryz.ntmps102
    go_wp2
    go_ret
    exact ⟨rfl, rfl⟩
  · have e : stp x = x >>> 1 ^^^ pol := by unfold stp; rw [h]; rfl
    rw [h] at m
    simp only [if_true] at m
    have m2 : (U x).tmod 2 = 1 := by rw [Int.tmod_eq_emod_of_nonneg l0]; exact m
    rw [e]
    clear e h
    go_enter Tryz.func102, Tryz.ntmps102
    go_wp2
    go_ret
    exact ⟨rfl, rfl⟩
set_option maxHeartbeats 400000 in
theorem Feed_any (x : W32) (b : UInt8) (w : World) :
    Calls Tryz.prog 82 #[.int .u32 (U x), .int .u8 (b.toNat : Int)] w fun e w' => e = .returned (.int .u32 (U (feed x b))) ∧ w = w' := by
  obtain ⟨y, hy⟩ : ∃ y, y = x ^^^ X8 b := ⟨_, rfl⟩
  have e : feed x b = stps 8 y := by rw [hy]; rfl
  rw [e]
  go_enter Tryz.func82, Tryz.ntmps82
  go_wp2
  rw [← hy]
  clear hy e
  go_loopw [0, 5] (fun v i wr => ∃ k : Nat, k ≤ 8 ∧ i = .int .i64 k ∧ v = .int .u32 (U (stps k y)) ∧ w = wr) (fun _ i _ => 8 - (intOf i).toNat)
  case atStart => exact ⟨0, by omega, rfl, rfl, rfl⟩
  case round =>
    obtain ⟨k, hk, rfl, rfl, rfl⟩ := hrel
    by_cases hlt : k < 8
    · have yk : (k : Int) < 8 := by omega
      go_wp2_with fail
      refine (step_any _ _).mono ?_
      rintro e w' ⟨rfl, rfl⟩
      go_wp2
      go_roundw
      case rel => exact ⟨k + 1, by omega, by go_num, rfl, trivial⟩
      case measure => simp [intOf]; omega
    · have e : k = 8 := by omega
      subst e
      go_wp2
      go_ret
      exact ⟨rfl, rfl⟩
set_option maxHeartbeats 400000 in
theorem fed_any (x : W32) (b : UInt8) (w : World) (hk : ∀ i, i < 16 → w.cell? ⟨2, i, none⟩ = some (wv hb i)) :
    Calls Tryz.prog 116 #[.int .u32 (U x), .int .u8 (b.toNat : Int)] w fun e w' => e = .returned (.int .u32 (U (feed x b))) ∧ w = w' := by
  obtain ⟨y, hy⟩ : ∃ y, y = x ^^^ X8 b := ⟨_, rfl⟩
  rw [← half_feed, ← hy]
  obtain ⟨i, hi⟩ : ∃ i, i = y.toNat % 16 := ⟨_, rfl⟩
  have i16 : i < 16 := by omega
  have a1 : bits .and .u32 (U y) 15 = (i : Int) := by rw [U_and15, hi]
  have c1 : w.cell? ⟨2, i, none⟩ = some (.int .u32 (U (hb i))) := hk i i16
  obtain ⟨z, hz⟩ : ∃ z, z = hb i ^^^ y >>> 4 := ⟨_, rfl⟩
  have ez : half y = z := by unfold half; rw [hz, hi]
  rw [ez]
  obtain ⟨j, hj⟩ : ∃ j, j = z.toNat % 16 := ⟨_, rfl⟩
  have j16 : j < 16 := by omega
  have a2 : bits .and .u32 (U z) 15 = (j : Int) := by rw [U_and15, hj]
  have c2 : w.cell? ⟨2, j, none⟩ = some (.int .u32 (U (hb j))) := hk j j16
  have e2 : half z = hb j ^^^ z >>> 4 := by unfold half; rw [hj]
  rw [e2]
  clear e2 ez hi hj hk
  have g1 : (i : Int) < 16 := by omega
  have g2 : (j : Int) < 16 := by omega
  have ey : x ^^^ X8 b = y := hy.symm
  have ez : hb i ^^^ y >>> 4 = z := hz.symm
  clear hy hz
  go_enter Tryz.func116, Tryz.ntmps116
  go_wp2
  go_ret
  exact ⟨rfl, rfl⟩
end Go.Proofs.YtnmjcpoobabjgaaGreatDoor.Cr
namespace Go.Proofs.YtnmjcpoobabjgaaGreatDoor.Cr
open Go.RowKit
theorem ty9 : Tryz.prog.underlying 9 = some .string := by kernel_rfl
theorem idx_str (s : ByteArray) (i : Nat) (h : i < s.size) (w : World) : (Instr.index 9 (.string s) (.int .i64 (i : Int))).run Tryz.prog w = .ok (.int .u8 ((sAt s i).toNat : Int)) w := by
  have hs : s.data.size = s.size := rfl
  have e : sAt s i = s[i] := by
    unfold sAt
    rw [List.getD_eq_getElem?_getD, Array.getElem?_toList, Array.getElem?_eq_getElem (by omega)]; rfl
  rw [e]
  have hai : (asIntOf (.int .i64 (i : Int))).run Tryz.prog w = .ok (.i64, (i : Int)) w := rfl
  simp [Instr.index, run_underlying ty9, hai, h]
theorem U_m (x : W32) : U x % 4294967296 = U x := by have := U_ge x; have := U_lt x; omega
attribute [local go_sem] U_xor U_not U_neg U_m
set_option maxHeartbeats 400000 in
theorem add_any (x : W32) (s : ByteArray) (w : World) (hs : s.size ≤ 1073741824) (hk : ∀ i, i < 16 → w.cell? ⟨2, i, none⟩ = some (wv hb i)) :
    Calls Tryz.prog 92 #[.int .u32 (U x), .string s] w fun e w' => e = .returned (.int .u32 (U (~~~feeds (~~~x) (sAt s) s.size))) ∧ w = w' := by
  have HK := Lib.hid hk
  clear hk
  go_enter Tryz.func92, Tryz.ntmps92
  go_wp2
  go_loopw [5, 6, 11] (fun v _ i wr => ∃ k : Nat, k ≤ s.size ∧ i = .int .i64 k ∧ v = .int .u32 (U (feeds (~~~x) (sAt s) k)) ∧ w = wr) (fun _ _ i _ => s.size - (intOf i).toNat)
  case atStart => exact ⟨0, by omega, rfl, rfl, rfl⟩
  case round =>
    obtain ⟨k, hk, rfl, rfl, rfl⟩ := hrel
    by_cases hlt : k < s.size
    · have i1 := idx_str s k hlt
      have yk : (k : Int) < (s.size : Int) := by omega
      go_wp2_with fail
      refine (fed_any _ _ _ HK.out).mono ?_
      rintro e w' ⟨rfl, rfl⟩
      go_wp2
      go_roundw
      case rel => exact ⟨k + 1, by omega, by go_num, rfl, trivial⟩
      case measure => simp [intOf]; omega
    · have e : k = s.size := by omega
      subst e
      go_wp2
      go_ret
      exact ⟨rfl, rfl⟩
set_option maxHeartbeats 400000 in
theorem refsum_any (s : ByteArray) (w : World) (hs : s.size ≤ 1073741824) :
    Calls Tryz.prog 56 #[.string s] w fun e w' => e = .returned (.int .u32 (U (sumF (sAt s) s.size))) ∧ w = w' := by
  go_enter Tryz.func56, Tryz.ntmps56
  go_wp2
  go_loopw [3, 4] (fun v i wr => ∃ k : Nat, k ≤ s.size ∧ i = .int .i64 k ∧ v = .int .u32 (U (feeds ones (sAt s) k)) ∧ w = wr) (fun _ i _ => s.size - (intOf i).toNat)
  case atStart => exact ⟨0, by omega, rfl, rfl, rfl⟩
  case round =>
    obtain ⟨k, hk, rfl, rfl, rfl⟩ := hrel
    by_cases hlt : k < s.size
    · have i1 := idx_str s k hlt
      have yk : (k : Int) < (s.size : Int) := by omega
      go_wp2_with fail
      refine (Feed_any _ _ _).mono ?_
      rintro e w' ⟨rfl, rfl⟩
      go_wp2
      go_roundw
      case rel => exact ⟨k + 1, by omega, by go_num, rfl, trivial⟩
      case measure => simp [intOf]; omega
    · have e : k = s.size := by omega
      subst e
      have l0 := U_ge (feeds ones (sAt s) s.size)
      have l1 := U_lt (feeds ones (sAt s) s.size)
      go_wp2
      go_ret
      refine ⟨?_, rfl⟩
      show Ending.returned (.int .u32 (U (~~~feeds ones (sAt s) s.size) % 4294967296)) = _
      rw [U_m]
      rfl
end Go.Proofs.YtnmjcpoobabjgaaGreatDoor.Cr
namespace Go.Proofs.YtnmjcpoobabjgaaGreatDoor.Cr
open Go.RowKit
theorem joinF_old (ss : Nat → ByteArray) (k i : Nat) (h : i < offs ss k) : joinF ss (k + 1) i = joinF ss k i := by
  show (if i < offs ss k then joinF ss k i else _) = _
  rw [if_pos h]
theorem joinF_new (ss : Nat → ByteArray) (k i : Nat) : joinF ss (k + 1) (offs ss k + i) = sAt (ss k) i := by
  show (if offs ss k + i < offs ss k then _ else sAt (ss k) (offs ss k + i - offs ss k)) = _
  rw [if_neg (by omega), show offs ss k + i - offs ss k = i by omega]
theorem sum_next (ss : Nat → ByteArray) (k : Nat) : ~~~feeds (~~~sumF (joinF ss k) (offs ss k)) (sAt (ss k)) (ss k).size = sumF (joinF ss (k + 1)) (offs ss (k + 1)) := by
  unfold sumF
  rw [not_not']
  show _ = ~~~feeds ones (joinF ss (k + 1)) (offs ss k + (ss k).size)
  rw [feeds_add ones (joinF ss (k + 1)) (sAt (ss k)) _ _ (fun i _ => joinF_new ss k i), feeds_congr (f := joinF ss (k + 1)) (g := joinF ss k) (fun i hi => joinF_old ss k i hi)]
theorem sum_none (f : Nat → UInt8) : sumF f 0 = 0#32 := by show ~~~ones = _; decide
set_option maxHeartbeats 1000000 in
set_option maxRecDepth 100000 in
theorem csum_any (ss : Nat → ByteArray) (v : Value) (len : Nat) (w : World) (hl : len ≤ 1048576) (hn : offs ss len ≤ 1073741824) (hS : Strs w v ss len) (hk : ∀ i, i < 16 → w.cell? ⟨2, i, none⟩ = some (wv hb i)) :
    Calls Tryz.prog 74 #[v] w fun e w' => e = .returned (.int .u32 (U (sumF (joinF ss len) (offs ss len)))) ∧ w = w' := by
  obtain ⟨ad, cap, rfl, ha⟩ := strs_addr hS
  clear hS
  have HA := Lib.hid ha
  have HN := Lib.hid hn
  have HK := Lib.hid hk
  clear ha hn hk
  go_enter Tryz.func74, Tryz.ntmps74
  go_wp2
  go_loopw [3, 5, 8] (fun v _ i wr => ∃ k : Nat, k ≤ len ∧ i = .int .i64 k ∧ v = .int .u32 (U (sumF (joinF ss k) (offs ss k))) ∧ w = wr) (fun _ _ i _ => len - (intOf i).toNat)
  case atStart => exact ⟨0, by omega, rfl, congrArg (Value.int .u32) (by show (0 : Int) = U (sumF (joinF ss 0) 0); rw [sum_none]; rfl), rfl⟩
  case round =>
    obtain ⟨k, hk, rfl, rfl, rfl⟩ := hrel
    by_cases hlt : k < len
    · obtain ⟨b, o, rfl, hb, hc⟩ := HA.out (by omega)
      have ck := hc k hlt
      clear hc
      have zk : (0 : Int) ≤ (k : Int) := by omega
      have yk : (k : Int) < (len : Int) := by omega
      have hsz : (ss k).size ≤ 1073741824 := by
        have h1 := offs_mono ss (show k + 1 ≤ len by omega)
        have h2 : offs ss (k + 1) = offs ss k + (ss k).size := rfl
        have := HN.out
        omega
      go_wp2_with fail
      refine (add_any _ _ _ hsz HK.out).mono ?_
      rintro e w' ⟨rfl, rfl⟩
      go_wp2
      go_roundw
      case rel => exact ⟨k + 1, by omega, by go_num, congrArg (fun z => Value.int .u32 (U z)) (sum_next ss k), trivial⟩
      case measure => simp [intOf]; omega
    · have e : k = len := by omega
      subst e
      go_wp2
      go_ret
      exact ⟨rfl, rfl⟩
end Go.Proofs.YtnmjcpoobabjgaaGreatDoor.Cr
namespace Go.Proofs.YtnmjcpoobabjgaaGreatDoor.Cr
open Go.RowKit
def oneS (s : ByteArray) (_ : Nat) : ByteArray := s
theorem one_offs (s : ByteArray) : offs (oneS s) 1 = s.size := by simp [offs, oneS]
theorem one_join (s : ByteArray) (i : Nat) : joinF (oneS s) 1 i = sAt s i := by
  unfold joinF
  rw [if_neg (by simp [offs])]
  simp [offs, oneS]
theorem one_sum (s : ByteArray) : sumF (joinF (oneS s) 1) (offs (oneS s) 1) = sumF (sAt s) s.size := by
  rw [one_offs]
  exact sumF_congr fun i _ => one_join s i
theorem one_cells (s : ByteArray) : ∀ i, i < 1 → (#[.string s] : Array Value)[i]? = some (.string (oneS s i)) := fun i hi => by
  obtain rfl : i = 0 := by omega
  rfl
/- the sum of one text, as the call with one part has it -/
theorem csum_one (s : ByteArray) (w : World) (b : Nat) (hs : s.size ≤ 1073741824) (hS : Strs w (.slice (some ⟨b, 0, none⟩) 1 1) (oneS s) 1) (hk : ∀ i, i < 16 → w.cell? ⟨2, i, none⟩ = some (wv hb i)) :
    Calls Tryz.prog 74 #[.slice (some ⟨b, 0, none⟩) 1 1] w fun e w' => e = .returned (.int .u32 (U (sumF (sAt s) s.size))) ∧ w = w' := by
  have h := csum_any (oneS s) _ 1 w (by omega) (by rw [one_offs]; exact hs) hS hk
  rw [one_sum] at h
  exact h
/- the four bytes of a number, the lowest first -/
def sb (x : W32) (i : Nat) : UInt8 := UInt8.ofNat (x.toNat / 256 ^ i)
theorem sb_val (x : W32) (i : Nat) : (((sb x i).toNat : Nat) : Int) = U x / (256 ^ i : Nat) % 256 := by
  unfold sb U
  rw [UInt8.toNat_ofNat']
  rw [← Int.natCast_ediv]
  omega
theorem four (x : W32) : (#[.int .u8 (U x % 256), .int .u8 (U x / 256 % 256), .int .u8 (U x / 65536 % 256), .int .u8 (U x / 16777216 % 256)] : Array Value) = arr 4 (bv (sb x)) := by
  apply Array.ext_getElem?
  intro i
  by_cases hi : i < 4
  · rw [arr_get _ _ _ hi]
    unfold bv
    rw [sb_val]
    match i, hi with
    | 0, _ => simp
    | 1, _ => rfl
    | 2, _ => rfl
    | 3, _ => rfl
  · rw [Array.getElem?_eq_none (by simp; omega), Array.getElem?_eq_none (by rw [arr_size]; omega)]
theorem four2 (x : W32) : (#[.int .u8 (U x % 256), .int .u8 (U x / 256 % 256), .int .u8 (U x / 65536 % 256), .int .u8 (U x / 16777216)] : Array Value) = arr 4 (bv (sb x)) := by
  have l0 := U_ge x
  have l1 := U_lt x
  have e : U x / 16777216 = U x / 16777216 % 256 := by omega
  have h : (#[.int .u8 (U x % 256), .int .u8 (U x / 256 % 256), .int .u8 (U x / 65536 % 256), .int .u8 (U x / 16777216)] : Array Value) = #[.int .u8 (U x % 256), .int .u8 (U x / 256 % 256), .int .u8 (U x / 65536 % 256), .int .u8 (U x / 16777216 % 256)] := by rw [← e]
  rw [h, four]
theorem ty44 : Tryz.prog.underlying 102 = some (.array 4 5) := by kernel_rfl
theorem sz44 : (Tryz.prog.info? 102).map (·.size) = some 4 := by kernel_rfl
set_option maxHeartbeats 400000 in
set_option maxRecDepth 100000 in
theorem sealof_any (s : ByteArray) (w : World) (hs : s.size ≤ 1073741824) (hk : ∀ i, i < 16 → w.cell? ⟨2, i, none⟩ = some (wv hb i)) :
    Calls Tryz.prog 49 #[.string s] w fun e w' => e = .returned (.agg (arr 4 (bv (sb (sumF (sAt s) s.size))))) ∧ Below w.heap.size w w' := by
  have h0 : 2 < w.heap.size := block_lt_of_cell (hk 0 (by omega))
  have HK := Lib.hid hk
  clear hk
  go_enter Tryz.func49, Tryz.ntmps49
  go_wp2_with fail
  have L0 : ∀ A B, Below w.heap.size w ((w.alloc A).alloc B) := fun A B => ((Below.refl _ _).alloc (Nat.le_refl _) _).alloc (by simp) _
  refine (csum_one s _ (w.heap.size + 1) hs (strs_new _ _ _ _ _ _ (by simp) (by decide) (one_cells s)) (fun i hi => by rw [(L0 _ _).cell h0]; exact HK.out i hi)).mono ?_
  rintro e w' ⟨rfl, rfl⟩
  clear L0
  go_wp2_with fail
  generalize sumF (sAt s) s.size = x
  rw [four x]
  have B : Blk ((w.alloc (.cells (arr 4 (bv (sb x))) 102)).alloc (.cells #[.string s] 9)) w.heap.size 102 4 (bv (sb x)) := Blk.newAt _ (heap_alloc2_old w _ _) rfl
  exact bodyPost_ret (v := .agg (arr 4 (bv (sb x)))) (results_blk rfl _ _ w.heap.size 102 4 _ B _ rfl ty44 rfl sz44) rfl ⟨rfl, ((Below.refl _ _).alloc (Nat.le_refl _) _).alloc (by simp) _⟩
def sealS (s : ByteArray) : ByteArray := s ++ str 4 (sb (sumF (sAt s) s.size))
theorem ty5 : Tryz.prog.underlying 5 = some (.int .u8) := by kernel_rfl
theorem ty40 : Tryz.prog.underlying 63 = some (.slice 5) := by kernel_rfl
/- a block of n bytes as a text -/
theorem conv_blk (w : World) (b E n : Nat) (cap : Nat) (f : Nat → UInt8) (hB : Blk w b E n (bv f)) : (convert 63 9 (.slice (some ⟨b, 0, none⟩) n cap)).run Tryz.prog w = .ok (.string (str n f)) w := by
  have h := run_convert_bytes_back (P := Tryz.prog) w 63 9 5 ⟨b, 0, none⟩ cap (strL n f) ty40 ty5 ty9 (fun j hj => by
    have hj' : j < n := by rw [strL_length] at hj; exact hj
    rw [Addr.add_mid, Nat.zero_add, hB.cell j hj', strL_get]
    rfl)
  rw [strL_length] at h
  exact h
set_option maxHeartbeats 400000 in
set_option maxRecDepth 100000 in
theorem seal_any (s : ByteArray) (w : World) (hs : s.size ≤ 1073741824) (hk : ∀ i, i < 16 → w.cell? ⟨2, i, none⟩ = some (wv hb i)) :
    Calls Tryz.prog 29 #[.string s] w fun e w' => e = .returned (.string (sealS s)) ∧ Below w.heap.size w w' := by
  have H := sealof_any s w hs hk
  have es : sealS s = s ++ str 4 (sb (sumF (sAt s) s.size)) := rfl
  rw [es]
  generalize sb (sumF (sAt s) s.size) = g at H ⊢
  clear es
  obtain ⟨r, hr⟩ : ∃ r, r = str 4 g := ⟨_, rfl⟩
  have n1 : ¬ 9223372036854775807 < s.size + r.size := by rw [hr, str_size]; omega
  rw [← hr]
  have Hr := Lib.hid hr
  clear hr
  go_enter Tryz.func29, Tryz.ntmps29
  go_wp2_with fail
  refine H.mono ?_
  rintro e w1 ⟨rfl, L1⟩
  go_upto_region 2 with (refine wpList_store_blk rfl 102 (.tmp 3) (.tmp 5) rfl w1.heap.size 4 (bv g) (bv fun _ => 0) rfl rfl 102 (Blk.newAt _ (heap_alloc_new _ _) rfl) sz44 (fun _ _ => rfl) ?_)
  rw [World.setRow_alloc_new]
  have K2 : Blk (w1.alloc (.cells (arr 4 (bv g)) 102)) w1.heap.size 102 4 (bv g) := Blk.newAt _ (heap_alloc_new _ _) rfl
  have L2 := L1.alloc L1.size (.cells (arr 4 (bv g)) 102)
  generalize w1.alloc (.cells (arr 4 (bv g)) 102) = w2 at K2 L2 ⊢
  have hc := conv_blk w2 w1.heap.size 102 4 4 g K2
  rw [← Hr.out] at hc
  go_wp2
  go_ret
  exact ⟨rfl, L2⟩
set_option maxHeartbeats 400000 in
set_option maxRecDepth 100000 in
theorem refseal_any (s : ByteArray) (w : World) (hs : s.size ≤ 1073741824) :
    Calls Tryz.prog 34 #[.string s] w fun e w' => e = .returned (.string (sealS s)) ∧ Below w.heap.size w w' := by
  have H := refsum_any s w hs
  have es : sealS s = s ++ str 4 (sb (sumF (sAt s) s.size)) := rfl
  rw [es]
  generalize sumF (sAt s) s.size = x at H ⊢
  clear es
  obtain ⟨r, hr⟩ : ∃ r, r = str 4 (sb x) := ⟨_, rfl⟩
  have n1 : ¬ 9223372036854775807 < s.size + r.size := by rw [hr, str_size]; omega
  rw [← hr]
  have Hr := Lib.hid hr
  clear hr
  go_enter Tryz.func34, Tryz.ntmps34
  go_wp2_with fail
  refine H.mono ?_
  rintro e w' ⟨rfl, rfl⟩
  have l0 := U_ge x
  have l1 := U_lt x
  have K2 : Blk (w.alloc (.cells (arr 4 (bv (sb x))) 5)) w.heap.size 5 4 (bv (sb x)) := Blk.newAt _ (heap_alloc_new _ _) rfl
  rw [← four2 x] at K2
  have hc := conv_blk _ w.heap.size 5 4 4 (sb x) K2
  rw [← Hr.out] at hc
  clear K2
  go_wp2
  go_ret
  exact ⟨rfl, (Below.refl _ _).alloc (Nat.le_refl _) _⟩
end Go.Proofs.YtnmjcpoobabjgaaGreatDoor.Cr
namespace Go.Proofs.YtnmjcpoobabjgaaGreatDoor.Cr
open Go.RowKit
theorem strclone_any (s : ByteArray) (w : World) (hs : s.size ≤ 1073741824) : Calls Tryz.prog 59 #[.string s] w fun e w' => e = .returned (.string s) ∧ Below w.heap.size w w' := clone_any s w (by omega)
theorem beqS (a b : ByteArray) : (a.toList == b.toList) = decide (a = b) := by
  rw [ByteArray.toList_eq, ByteArray.toList_eq]
  by_cases h : a = b
  · subst h; rw [decide_eq_true rfl]; simp
  · rw [decide_eq_false h, beq_eq_false_iff_ne]
    intro e
    apply h
    apply ByteArray.ext
    exact Array.toList_inj.1 e
theorem two_parts (s : ByteArray) (n : Nat) (h : n ≤ s.size) : s.extract 0 n ++ s.extract n s.size = s := by
  rw [ByteArray.extract_append_extract, Nat.zero_min, Nat.max_eq_right h, ByteArray.extract_zero_size]
theorem below_drewN {B : Nat} {a b : World} (h : Below B a b) (q : Nat) : Below B a (b.drewN q) := h.trans ⟨rfl, rfl, rfl, Nat.le_refl _, fun _ _ => rfl⟩
/- what Unseal tells -/
def okS (s : ByteArray) : Bool := decide (4 ≤ s.size) && decide (sealS (s.extract 0 (s.size - 4)) = s)
def unS (s : ByteArray) : ByteArray := if okS s = true then s.extract 0 (s.size - 4) else ⟨#[]⟩
theorem okS_part (s : ByteArray) (n : Nat) (g : Nat → UInt8) (hn : s.size = n + 4) (hg : g = sb (sumF (sAt (s.extract 0 n)) (s.extract 0 n).size)) :
    ((s.extract n s.size).toList == (str 4 g).toList) = okS s := by
  have e : s.size - 4 = n := by omega
  unfold okS
  rw [beqS, decide_eq_true (show 4 ≤ s.size by omega), Bool.true_and, e, decide_eq_decide]
  unfold sealS
  rw [← hg]
  constructor
  · intro h
    rw [← h]
    exact two_parts s n (by omega)
  · intro h
    have h2 := two_parts s n (by omega)
    exact (ByteArray.append_right_inj (s.extract 0 n)).1 (h2.trans h.symm)
theorem okS_ref (s : ByteArray) (n : Nat) (hn : s.size = n + 4) : ((sealS (s.extract 0 n)).toList == s.toList) = okS s := by
  have e : s.size - 4 = n := by omega
  unfold okS
  rw [beqS, decide_eq_true (show 4 ≤ s.size by omega), Bool.true_and, e]
theorem unseal_few (s : ByteArray) (w : World) (hs : s.size < 4) :
    Calls Tryz.prog 36 #[.string s] w fun e w' => e = .returned (.tuple #[.string (unS s), .bool (okS s)]) ∧ Below w.heap.size w w' := by
  have e1 : okS s = false := by unfold okS; rw [decide_eq_false (by omega)]; rfl
  have e2 : unS s = ⟨#[]⟩ := by unfold unS; rw [e1]; rfl
  rw [e1, e2]
  clear e1 e2
  have b1 : (s.size : Int) - 4 < 0 := by omega
  go_enter Tryz.func36, Tryz.ntmps36
  go_wp2
  go_ret2
  exact ⟨rfl, Below.refl _ _⟩
set_option maxHeartbeats 400000 in
set_option maxRecDepth 100000 in
theorem unseal_more (s : ByteArray) (n : Nat) (w : World) (hn : s.size = n + 4) (hs : s.size ≤ 1073741824) (hk : ∀ i, i < 16 → w.cell? ⟨2, i, none⟩ = some (wv hb i)) :
    Calls Tryz.prog 36 #[.string s] w fun e w' => e = .returned (.tuple #[.string (unS s), .bool (okS s)]) ∧ Below w.heap.size w w' := by
  have h0 : 2 < w.heap.size := block_lt_of_cell (hk 0 (by omega))
  have HK := Lib.hid hk
  clear hk
  have e4 : (s.size : Int) - 4 = (n : Int) := by omega
  have w4 : IntKind.i64.wrap ((s.size : Int) - 4) = (n : Int) := by rw [IntWalk.i64_in _ (by omega), e4]
  have ts : (s.extract 0 n).size = n := by rw [size_ext _ _ _ (by omega) (by omega)]; omega
  have b0 : (0 : Int) ≤ (n : Int) := by omega
  have b2 : (n : Int) ≤ (s.size : Int) := by omega
  have eu : unS s = if okS s = true then s.extract 0 n else ⟨#[]⟩ := by
    unfold unS
    rw [show s.size - 4 = n by omega]
  obtain ⟨q, hq⟩ : ∃ q, q = okS s := ⟨_, rfl⟩
  obtain ⟨u, hu⟩ : ∃ u, u = unS s := ⟨_, rfl⟩
  rw [← hq, ← hu]
  rw [← hq, ← hu] at eu
  have HU := Lib.hid eu
  have HQ := Lib.hid hq
  have Hn := Lib.hid hn
  clear hn eu hq hu
  go_enter Tryz.func36, Tryz.ntmps36
  go_wp2_with fail
  refine (sealof_any (s.extract 0 n) _ (by omega) HK.out).mono ?_
  rintro e w1 ⟨rfl, L1⟩
  obtain ⟨g, hg⟩ : ∃ g, g = sb (sumF (sAt (s.extract 0 n)) (s.extract 0 n).size) := ⟨_, rfl⟩
  rw [← hg]
  have Hg := Lib.hid hg
  clear hg
  go_upto_region 5 with (refine wpList_store_blk rfl 102 (.tmp 5) (.tmp 14) rfl w1.heap.size 4 (bv g) (bv fun _ => 0) rfl rfl 102 (Blk.newAt _ (heap_alloc_new _ _) rfl) sz44 (fun _ _ => rfl) ?_)
  rw [World.setRow_alloc_new]
  have K2 : Blk (w1.alloc (.cells (arr 4 (bv g)) 102)) w1.heap.size 102 4 (bv g) := Blk.newAt _ (heap_alloc_new _ _) rfl
  have L2 := L1.alloc L1.size (.cells (arr 4 (bv g)) 102)
  generalize w1.alloc (.cells (arr 4 (bv g)) 102) = w2 at K2 L2 ⊢
  have hc := fun q => conv_blk (w2.drewN q) w1.heap.size 102 4 4 g (K2.drewN q)
  have ho := okS_part s n g Hn.out Hg.out
  rw [← HQ.out] at ho
  go_quiet (fail)
  clear ho
  cases q
  · go_wp2
    go_ret2
    rw [HU.out]
    exact ⟨rfl, below_drewN L2 _⟩
  · go_wp2_with fail
    refine (strclone_any (s.extract 0 n) _ (by omega)).mono ?_
    rintro e w3 ⟨rfl, L3⟩
    go_wp2_with fail
    go_ret2
    rw [HU.out]
    exact ⟨rfl, (below_drewN L2 _).trans (L3.mono (by simp; exact L2.size))⟩
theorem unseal_any (s : ByteArray) (w : World) (hs : s.size ≤ 1073741824) (hk : ∀ i, i < 16 → w.cell? ⟨2, i, none⟩ = some (wv hb i)) :
    Calls Tryz.prog 36 #[.string s] w fun e w' => e = .returned (.tuple #[.string (unS s), .bool (okS s)]) ∧ Below w.heap.size w w' := by
  by_cases c : s.size < 4
  · exact unseal_few s w c
  · exact unseal_more s (s.size - 4) w (by omega) hs hk
theorem refunseal_few (s : ByteArray) (w : World) (hs : s.size < 4) :
    Calls Tryz.prog 39 #[.string s] w fun e w' => e = .returned (.tuple #[.string (unS s), .bool (okS s)]) ∧ Below w.heap.size w w' := by
  have e1 : okS s = false := by unfold okS; rw [decide_eq_false (by omega)]; rfl
  have e2 : unS s = ⟨#[]⟩ := by unfold unS; rw [e1]; rfl
  rw [e1, e2]
  clear e1 e2
  have b1 : (s.size : Int) < 4 := by omega
  go_enter Tryz.func39, Tryz.ntmps39
  go_wp2
  go_ret2
  exact ⟨rfl, Below.refl _ _⟩
set_option maxHeartbeats 400000 in
set_option maxRecDepth 100000 in
theorem refunseal_more (s : ByteArray) (n : Nat) (w : World) (hn : s.size = n + 4) (hs : s.size ≤ 1073741824) :
    Calls Tryz.prog 39 #[.string s] w fun e w' => e = .returned (.tuple #[.string (unS s), .bool (okS s)]) ∧ Below w.heap.size w w' := by
  have e4 : (s.size : Int) - 4 = (n : Int) := by omega
  have w4 : IntKind.i64.wrap ((s.size : Int) - 4) = (n : Int) := by rw [IntWalk.i64_in _ (by omega), e4]
  have ts : (s.extract 0 n).size = n := by rw [size_ext _ _ _ (by omega) (by omega)]; omega
  have b0 : (0 : Int) ≤ (n : Int) := by omega
  have b2 : (n : Int) ≤ (s.size : Int) := by omega
  have b4 : decide ((s.size : Int) < 4) = false := by simp; omega
  have ho := okS_ref s n hn
  have eu : unS s = if okS s = true then s.extract 0 n else ⟨#[]⟩ := by
    unfold unS
    rw [show s.size - 4 = n by omega]
  obtain ⟨q, hq⟩ : ∃ q, q = okS s := ⟨_, rfl⟩
  obtain ⟨u, hu⟩ : ∃ u, u = unS s := ⟨_, rfl⟩
  rw [← hq, ← hu]
  rw [← hq, ← hu] at eu
  rw [← hq] at ho
  have HU := Lib.hid eu
  clear hn eu hq hu
  go_enter Tryz.func39, Tryz.ntmps39
  go_wp2_with fail
  refine (refseal_any (s.extract 0 n) _ (by omega)).mono ?_
  rintro e w1 ⟨rfl, L1⟩
  cases q
  · go_wp2
    go_ret2
    rw [HU.out]
    exact ⟨rfl, L1⟩
  · go_wp2
    go_ret2
    rw [HU.out]
    exact ⟨rfl, L1⟩
theorem refunseal_any (s : ByteArray) (w : World) (hs : s.size ≤ 1073741824) :
    Calls Tryz.prog 39 #[.string s] w fun e w' => e = .returned (.tuple #[.string (unS s), .bool (okS s)]) ∧ Below w.heap.size w w' := by
  by_cases c : s.size < 4
  · exact refunseal_few s w c
  · exact refunseal_more s (s.size - 4) w (by omega) hs
end Go.Proofs.YtnmjcpoobabjgaaGreatDoor.Cr
