import Derived.WalkKit
import Derived.WalkSpells
import Derived.WalkSmall
import Derived.Deep.Draws
import Derived.Deep.MidRow
import Derived.Laws.CopyOwn
import Derived.Test.YtnmjcpoobabjgaaGreatDoorProg
import Derived.Lib.AppendStr
import Derived.Deep.AppendLies
import Derived.OwnWalk
import Derived.Maps.AppendAt
import Derived.Lib.Hide
import Derived.Deep.Cut
import Derived.Deep.WholeRow
import Derived.Deep.RegionLaw
import Derived.WalkLawsBesides
set_option linter.unusedVariables false
set_option linter.unusedSimpArgs false
namespace Go.Proofs.YtnmjcpoobabjgaaGreatDoor
open Go.RowKit
/- n values as a function tells them -/
def arr (n : Nat) (f : Nat → Value) : Array Value := Array.ofFn (fun i : Fin n => f i)
theorem arr_size (n : Nat) (f : Nat → Value) : (arr n f).size = n := by simp [arr]
theorem arr_congr {n : Nat} {f g : Nat → Value} (h : ∀ i, i < n → f i = g i) : arr n f = arr n g := by
  unfold arr
  apply Array.ext
  · simp
  · intro i h1 h2
    simp at h1
    simp [h i h1]
theorem arr_get (n : Nat) (f : Nat → Value) (i : Nat) (h : i < n) : (arr n f)[i]? = some (f i) := by simp [arr, h]
/- a block of n cells that reads as a function -/
def Blk (w : World) (b : Nat) (E : TypeId) (n : Nat) (f : Nat → Value) : Prop :=
  w.heap[b]? = some (.cells (arr n f) E (0, 0))

theorem Blk.lt {w : World} {b E n f} (h : Blk w b E n f) : b < w.heap.size := by
  unfold Blk at h
  by_cases hlt : b < w.heap.size
  · exact hlt
  · have hn : w.heap[b]? = none := by simp; omega
    rw [hn] at h; cases h
theorem Blk.cell {w : World} {b E n f} (h : Blk w b E n f) (i : Nat) (hi : i < n) : w.cell? ⟨b, i, none⟩ = some (f i) := by
  rw [cell_of_row w b i _ E _ h]
  exact arr_get n f i hi
theorem Blk.frozen {w : World} {b E n f} (h : Blk w b E n f) (i : Nat) : w.frozen? ⟨b, i, none⟩ = false :=
  frozen_of_row w b i _ E h
theorem Blk.congr {w : World} {b E n f g} (h : Blk w b E n f) (hfg : ∀ i, i < n → f i = g i) : Blk w b E n g := by
  unfold Blk at *
  rw [h, arr_congr hfg]
theorem Blk.set {w : World} {b E n f} (h : Blk w b E n f) (i : Nat) (v : Value) : Blk (w.setCell ⟨b, i, none⟩ v) b E n (fun j => if j = i then v else f j) := by
  unfold Blk at *
  rw [heap_setCell_same w b i _ E v h]
  congr 2
  unfold arr
  apply Array.ext
  · simp
  · intro j h1 h2
    simp at h1
    rw [Array.getElem_setIfInBounds (by simpa using h1)]
    simp only [Array.getElem_ofFn]
    by_cases e : i = j
    · subst e; simp
    · rw [if_neg e, if_neg (fun e' => e e'.symm)]
theorem Blk.setOther {w : World} {b E n f} (h : Blk w b E n f) (a : Addr) (v : Value) (ha : a.block ≠ b) : Blk (w.setCell a v) b E n f := by
  unfold Blk at *
  rw [heap_setCell_other w a b v (fun e => ha e.symm)]; exact h
theorem Blk.alloc {w : World} {b E n f} (h : Blk w b E n f) (o : Obj) : Blk (w.alloc o) b E n f := by
  have hl := h.lt
  unfold Blk at *
  show (w.heap.push o)[b]? = _
  rw [Array.getElem?_push, if_neg (Nat.ne_of_lt hl)]; exact h
theorem Blk.drew {w : World} {b E n f} (h : Blk w b E n f) : Blk w.drew b E n f := h
theorem Blk.drewN {w : World} {b E n f} (h : Blk w b E n f) (q : Nat) : Blk (w.drewN q) b E n f := by
  unfold Blk at *; simpa using h
theorem Blk.below {w w' : World} {B b E n f} (h : Blk w b E n f) (hb : Below B w w') (hlt : b < B) : Blk w' b E n f := by
  unfold Blk at *
  rw [hb.block b hlt]; exact h
theorem Blk.new (w : World) (cs : Array Value) (E : TypeId) (n : Nat) (f : Nat → Value) (hc : cs = arr n f) : Blk (w.alloc (.cells cs E)) w.heap.size E n f := by
  unfold Blk
  rw [heap_alloc_new, hc]
theorem Blk.newAt {w : World} {b : Nat} {cs : Array Value} {E : TypeId} {n : Nat} (f : Nat → Value) (h : w.heap[b]? = some (.cells cs E (0,0))) (hc : cs = arr n f) : Blk w b E n f := by
  unfold Blk
  rw [h, hc]
theorem Blk.setRow {w : World} {b E n f} (h : Blk w b E n f) (g : Nat → Value) : Blk (w.setRow b (arr n g)) b E n g := by
  unfold Blk at *
  exact setRow_heap w b _ _ E _ h
theorem Blk.setRowOther {w : World} {b E n f} (h : Blk w b E n f) (k : Nat) (cs : Array Value) (hk : k ≠ b) : Blk (w.setRow k cs) b E n f := by
  unfold Blk at *
  rw [setRow_other w k b cs (fun e => hk e.symm)]; exact h
theorem Blk.range {w : World} {b E n f} (h : Blk w b E n f) (o m : Nat) (hm : o + m ≤ n) : w.rangeAt b o (arr m (fun i => f (o + i))).toList := by
  intro j v hv
  have hj : j < m := by
    have := (List.getElem?_eq_some_iff.1 hv).1
    simpa [arr_size] using this
  have e : (arr m (fun i => f (o + i))).toList[j]? = some (f (o + j)) := by
    rw [Array.getElem?_toList]; exact arr_get _ _ _ hj
  rw [e] at hv
  cases hv
  exact h.cell _ (by omega)
theorem Blk.there {w : World} {b E n f} (h : Blk w b E n f) (o m : Nat) (hm : o + m ≤ n) : w.there b o m := fun j hj =>
  ⟨by rw [h.cell _ (by omega)]; rfl, h.frozen _⟩

section
variable {P : Program}
theorem wpList_load_blk {ops : Array Oper} {rest : List Oper} {o : Oper} {a : Act} {w : World} {Q : Exit → Act → World → Prop} (hgd : o.guard = none) (ty : TypeId) (x : Operand) (ho : o.op = .load ty x)
    (g : Nat) (hx : a.eval x = .pointer (some ⟨g, 0, none⟩)) (E : TypeId) (n : Nat) (f : Nat → Value) (hB : Blk w g E n f) (d : TypeDesc)
    (hu : P.underlying ty = some d) (hd : (match d with | .struct _ | .array _ _ => true | _ => false) = true) (hi : (P.info? ty).map (·.size) = some n)
    (h : wpList P ops Q rest (a.put o.dst (.agg (arr n f))) w) : wpList P ops Q (o :: rest) a w :=
  wpList_load_row hgd ty x ho g hx E (arr n f) (0, 0) d hB hu hd (by rw [arr_size]; exact hi) h
theorem wpList_store_blk {ops : Array Oper} {rest : List Oper} {o : Oper} {a : Act} {w : World} {Q : Exit → Act → World → Prop} (hgd : o.guard = none) (ty : TypeId) (x y : Operand) (ho : o.op = .store ty x y)
    (g : Nat) (n : Nat) (f fo : Nat → Value) (hx : a.eval x = .pointer (some ⟨g, 0, none⟩)) (hy : a.eval y = .agg (arr n f)) (E : TypeId) (hB : Blk w g E n fo)
    (hi : (P.info? ty).map (·.size) = some n) (h1 : ∀ i, i < n → (f i).oneCell' = true)
    (h : wpList P ops Q rest (a.put o.dst undef) (w.setRow g (arr n f))) : wpList P ops Q (o :: rest) a w :=
  wpList_store_row hgd ty x y ho g (arr n f) hx hy E (arr n fo) hB (by rw [arr_size]; exact hi) (by rw [arr_size, arr_size])
    (Array.all_eq_true_iff_forall_mem.2 (fun v hv => by
      unfold arr at hv
      rw [Array.mem_ofFn] at hv
      obtain ⟨i, rfl⟩ := hv
      exact h1 i i.isLt)) h
theorem results_blk {fn : Func} {p : Tmp} {ty : TypeId} (h : fn.results = #[.cell p ty]) (tmps : Array Value) (w : World) (g : Nat) (E : TypeId) (n : Nat) (f : Nat → Value) (hB : Blk w g E n f) (d : TypeDesc)
    (hp : tmps.getD p undef = .pointer (some ⟨g, 0, none⟩))
    (hu : P.underlying ty = some d) (hd : (match d with | .struct _ | .array _ _ => true | _ => false) = true) (hi : (P.info? ty).map (·.size) = some n) :
    (results fn tmps).run P w = .ok (.agg (arr n f)) w :=
  results_cell_row h tmps w g E (arr n f) (0, 0) d hp hB hu hd (by rw [arr_size]; exact hi)
end
end Go.Proofs.YtnmjcpoobabjgaaGreatDoor
/- Pure facts on the digits of a number and on reading them, over lists of bytes. -/
namespace Go.Proofs.YtnmjcpoobabjgaaGreatDoor
/- a number's bytes -/
def dg (n : Nat) : List UInt8 := if n < 128 then [UInt8.ofNat n] else UInt8.ofNat (n % 128 + 128) :: dg (n / 128)
termination_by n
decreasing_by omega
theorem dg_low {n : Nat} (h : n < 128) : dg n = [UInt8.ofNat n] := by rw [dg, if_pos h]
theorem dg_high {n : Nat} (h : ¬ n < 128) : dg n = UInt8.ofNat (n % 128 + 128) :: dg (n / 128) := by rw [dg, if_neg h]
theorem ofNat_toNat_small {n : Nat} (h : n < 256) : (UInt8.ofNat n).toNat = n := by rw [UInt8.toNat_ofNat']; omega
theorem ofNat_of_toNat {b : UInt8} {n : Nat} (h : n = b.toNat) : UInt8.ofNat n = b := by subst h; simp
/- reading a number of at most 'most' of a list of bytes, k digits of it behind, their sum acc: the number, how many bytes, the error -/
def rd (most : Int) : List UInt8 → Nat → Nat → Nat × Nat × Int
  | [], k, _ => if k = 6 then (0, 0, 4) else (0, 0, 3)
  | b :: t, k, acc =>
    if k = 6 then (0, 0, 4) else
    if 128 ≤ b.toNat then rd most t (k + 1) (acc + b.toNat % 128 * 128 ^ k) else
    if b.toNat = 0 ∧ 0 < k then (0, 0, 2) else
    if 1099511627775 < acc + b.toNat % 128 * 128 ^ k ∨ most < ((acc + b.toNat % 128 * 128 ^ k : Nat) : Int) then (0, 0, 4) else (acc + b.toNat % 128 * 128 ^ k, k + 1, 0)
theorem pow_big {m k : Nat} (hm : 0 < m) (h : m * 128 ^ k ≤ 1099511627775) : k ≤ 5 := by
  rcases Nat.lt_or_ge k 6 with hk | hk
  · omega
  · have h1 : 128 ^ 6 ≤ 128 ^ k := Nat.pow_le_pow_right (by decide) hk
    have h2 : 128 ^ k ≤ m * 128 ^ k := Nat.le_mul_of_pos_left _ hm
    have h3 : (128 : Nat) ^ 6 = 4398046511104 := by decide
    omega
theorem split_mul (n k : Nat) : n % 128 * 128 ^ k + n / 128 * 128 ^ (k + 1) = n * 128 ^ k := by
  rw [Nat.pow_succ, Nat.mul_comm (128 ^ k) 128, ← Nat.mul_assoc, ← Nat.add_mul]
  congr 1
  omega
theorem rd_dg (most : Int) (rest : List UInt8) : ∀ (n k acc : Nat), k ≤ 5 → acc + n * 128 ^ k ≤ 1099511627775 → ((acc + n * 128 ^ k : Nat) : Int) ≤ most → (0 < n ∨ k = 0) →
    rd most (dg n ++ rest) k acc = (acc + n * 128 ^ k, k + (dg n).length, 0) := by
  intro n
  induction n using Nat.strongRecOn with
  | _ n ih =>
    intro k acc hk h1 h2 h3
    by_cases hn : n < 128
    · rw [dg_low hn]
      have e : (UInt8.ofNat n).toNat = n := ofNat_toNat_small (by omega)
      simp only [List.cons_append, List.nil_append, rd, e, List.length_singleton]
      rw [Nat.mod_eq_of_lt hn, if_neg (by omega), if_neg (by omega), if_neg (by omega), if_neg (by omega)]
    · rw [dg_high hn]
      have e : (UInt8.ofNat (n % 128 + 128)).toNat = n % 128 + 128 := ofNat_toNat_small (by omega)
      simp only [List.cons_append, rd, e, List.length_cons]
      have hs := split_mul n k
      have hk1 : k + 1 ≤ 5 := pow_big (m := n / 128) (by omega) (by omega)
      rw [if_neg (by omega), if_pos (by omega), show (n % 128 + 128) % 128 = n % 128 by omega]
      rw [ih (n / 128) (by omega) (k + 1) _ hk1 (by omega) (by omega) (Or.inl (by omega))]
      rw [show acc + n % 128 * 128 ^ k + n / 128 * 128 ^ (k + 1) = acc + n * 128 ^ k by omega, show k + 1 + (dg (n / 128)).length = k + ((dg (n / 128)).length + 1) by omega]
theorem rd_one (most : Int) : ∀ (l : List UInt8) (k acc n size : Nat), rd most l k acc = (n, size, 0) →
    ∃ m rest, l = dg m ++ rest ∧ n = acc + m * 128 ^ k ∧ size = k + (dg m).length ∧ n ≤ 1099511627775 ∧ (n : Int) ≤ most ∧ (0 < k → 0 < m) := by
  intro l
  induction l with
  | nil => intro k acc n size h; unfold rd at h; split at h <;> simp at h
  | cons b t ih =>
    intro k acc n size h
    unfold rd at h
    split at h
    · simp at h
    · split at h
      · obtain ⟨m, rest, h1, h2, h3, h4, h5, h6⟩ := ih _ _ _ _ h
        have hb := b.toNat_lt
        have hm := h6 (by omega)
        refine ⟨m * 128 + b.toNat % 128, rest, ?_, ?_, ?_, h4, h5, fun _ => by omega⟩
        · rw [dg_high (by omega), show (m * 128 + b.toNat % 128) % 128 + 128 = b.toNat by omega, show (m * 128 + b.toNat % 128) / 128 = m by omega, h1, ofNat_of_toNat rfl]; rfl
        · have hs := split_mul (m * 128 + b.toNat % 128) k
          rw [show (m * 128 + b.toNat % 128) % 128 = b.toNat % 128 by omega, show (m * 128 + b.toNat % 128) / 128 = m by omega] at hs
          omega
        · rw [dg_high (by omega), show (m * 128 + b.toNat % 128) / 128 = m by omega, List.length_cons]; omega
      · split at h
        · simp at h
        · split at h
          · simp at h
          · simp only [Prod.mk.injEq, and_true] at h
            have hb : b.toNat < 128 := by omega
            refine ⟨b.toNat, t, ?_, ?_, ?_, by omega, by omega, fun _ => by omega⟩
            · rw [dg_low hb, ofNat_of_toNat rfl]; rfl
            · rw [← h.1, Nat.mod_eq_of_lt hb]
            · rw [dg_low hb, ← h.2]; rfl
theorem dg_pos (n : Nat) : 0 < (dg n).length := by
  rw [dg]; split <;> simp
theorem dg_le : ∀ (n k : Nat), n * 128 ^ k ≤ 1099511627775 → k ≤ 5 → (dg n).length + k ≤ 6 := by
  intro n
  induction n using Nat.strongRecOn with
  | _ n ih =>
    intro k h hk
    by_cases hn : n < 128
    · rw [dg_low hn]; simp; omega
    · rw [dg_high hn, List.length_cons]
      have hs := split_mul n k
      have hk1 : k + 1 ≤ 5 := pow_big (m := n / 128) (by omega) (by omega)
      have := ih (n / 128) (by omega) (k + 1) (by omega) hk1
      omega
theorem rd_zero_err (most : Int) : ∀ (l : List UInt8) (k acc : Nat), (rd most l k acc).2.2 = 0 ∨ ((rd most l k acc).1 = 0 ∧ (rd most l k acc).2.1 = 0 ∧ ((rd most l k acc).2.2 = 2 ∨ (rd most l k acc).2.2 = 3 ∨ (rd most l k acc).2.2 = 4)) := by
  intro l
  induction l with
  | nil => intro k acc; unfold rd; split <;> simp
  | cons b t ih =>
    intro k acc
    unfold rd
    split
    · simp
    · split
      · exact ih _ _
      · split
        · simp
        · split <;> simp
/- what a number is written as -/
def clamp (n : Int) : Nat := (min (max n 0) 1099511627775).toNat
theorem clamp_le (n : Int) : clamp n ≤ 1099511627775 := by unfold clamp; omega
theorem clamp_of {n : Int} (h0 : 0 ≤ n) (h1 : n ≤ 1099511627775) : clamp n = n.toNat := by unfold clamp; omega
/- what a text is written as -/
def tx (t : List UInt8) : List UInt8 := dg (clamp t.length) ++ t
theorem tA {α : Type} (l : List α) (i : Nat) (a : α) : l.toArray.setIfInBounds i a = (l.set i a).toArray := List.setIfInBounds_toArray l i a
theorem tZ {α : Type} {x : α} {xs : List α} {a : α} : (x :: xs).set 0 a = a :: xs := List.set_cons_zero
theorem tS {α : Type} {x : α} {xs : List α} {i : Nat} {a : α} : (x :: xs).set (i + 1) a = x :: xs.set i a := List.set_cons_succ
end Go.Proofs.YtnmjcpoobabjgaaGreatDoor
/- What a writer and a reader hold, and which blocks stay as they are. -/
namespace Go.Proofs.YtnmjcpoobabjgaaGreatDoor
open Go.RowKit
/- the blocks of which K speaks stay as they are -/
structure Keep (K : Nat → Prop) (w w' : World) : Prop where
  os : w'.os = w.os
  tape : w'.tape = w.tape
  output : w'.output = w.output
  size : w.heap.size ≤ w'.heap.size
  block : ∀ k, K k → k < w.heap.size → w'.heap[k]? = w.heap[k]?
theorem Keep.refl (K : Nat → Prop) (w : World) : Keep K w w := ⟨rfl, rfl, rfl, Nat.le_refl _, fun _ _ _ => rfl⟩
theorem Keep.trans {K : Nat → Prop} {a b c : World} (h : Keep K a b) (k : Keep K b c) : Keep K a c :=
  ⟨k.os.trans h.os, k.tape.trans h.tape, k.output.trans h.output, Nat.le_trans h.size k.size, fun i hi hl => (k.block i hi (Nat.lt_of_lt_of_le hl h.size)).trans (h.block i hi hl)⟩
theorem Keep.mono {K K' : Nat → Prop} {w w' : World} (h : Keep K w w') (hK : ∀ k, K' k → k < w.heap.size → K k) : Keep K' w w' :=
  ⟨h.os, h.tape, h.output, h.size, fun k hk hl => h.block k (hK k hk hl) hl⟩
theorem Keep.alloc {K : Nat → Prop} {a w : World} (h : Keep K a w) (o : Obj) : Keep K a (w.alloc o) :=
  h.trans ⟨rfl, rfl, rfl, by simp, fun k _ hl => Below.heap_alloc _ _ _ hl⟩
theorem Keep.drew {K : Nat → Prop} {a w : World} (h : Keep K a w) : Keep K a w.drew := ⟨h.os, h.tape, h.output, h.size, h.block⟩
theorem Keep.drewN {K : Nat → Prop} {a w : World} (h : Keep K a w) (n : Nat) : Keep K a (w.drewN n) := by
  refine h.trans ⟨rfl, rfl, rfl, Nat.le_refl _, fun _ _ _ => rfl⟩
theorem Keep.setCell {K : Nat → Prop} {a w : World} (h : Keep K a w) {p : Addr} (hp : ¬ K p.block) (u : Value) : Keep K a (w.setCell p u) :=
  h.trans ⟨rfl, rfl, rfl, by simp [World.setCell], fun k hk _ => Below.heap_setCell _ _ _ _ (fun e => hp (e ▸ hk))⟩
theorem Keep.setRow {K : Nat → Prop} {a w : World} (h : Keep K a w) {g : Nat} (hp : ¬ K g) (cs : Array Value) : Keep K a (w.setRow g cs) :=
  h.trans ⟨rfl, rfl, rfl, by simp, fun k hk _ => setRow_other w g k cs (fun e => hp (e ▸ hk))⟩
theorem Keep.grown {K : Nat → Prop} {a w w' : World} {row : Option Nat} (h : Keep K a w) (hg : w.grownBy w' row) (hr : ∀ k, row = some k → ¬ K k) : Keep K a w' :=
  h.trans ⟨hg.os, hg.tape, hg.output, hg.size, fun k hk hl => hg.block k hl (fun e => hr k e.symm hk)⟩
theorem Keep.below {B : Nat} {w w' : World} (h : Keep (· < B) w w') (hB : B ≤ w.heap.size) : Below B w w' :=
  ⟨h.os, h.tape, h.output, h.size, fun k hk => h.block k hk (Nat.lt_of_lt_of_le hk hB)⟩
theorem Keep.of_below {K : Nat → Prop} {B : Nat} {w w' : World} (h : Below B w w') (hK : ∀ k, K k → k < w.heap.size → k < B) : Keep K w w' :=
  ⟨h.os, h.tape, h.output, h.size, fun k hk hl => h.block k (hK k hk hl)⟩
theorem Keep.all {K : Nat → Prop} {w w' : World} (h : Below w.heap.size w w') : Keep K w w' := Keep.of_below h fun _ _ h => h
theorem Keep.at {K : Nat → Prop} {w w' : World} (h : Keep K w w') {k : Nat} {o : Obj} (hk : K k) (ho : w.heap[k]? = some o) : w'.heap[k]? = some o := by
  rw [h.block k hk (lt_of_block ho)]; exact ho
theorem Keep.blk {K : Nat → Prop} {w w' : World} {b E n f} (h : Keep K w w') (hk : K b) (hB : Blk w b E n f) : Blk w' b E n f := h.at hk hB
theorem Keep.cell {K : Nat → Prop} {w w' : World} (h : Keep K w w') {a : Addr} {v : Value} (hk : K a.block) (hc : w.cell? a = some v) : w'.cell? a = some v := by
  rw [World.cell?_of_block (w := w) (h.block a.block hk (block_lt_of_cell hc))]; exact hc
/- a list of bytes as a text, and as cells -/
def bs (l : List UInt8) : ByteArray := ⟨l.toArray⟩
theorem bs_size (l : List UInt8) : (bs l).size = l.length := by show l.toArray.size = _; simp
theorem bs_of (s : ByteArray) : bs s.data.toList = s := by apply ByteArray.ext; show s.data.toList.toArray = s.data; simp
theorem bs_inj {a b : List UInt8} (h : bs a = bs b) : a = b := by
  have e := congrArg (fun x : ByteArray => x.data.toList) h
  simpa [bs] using e
theorem bs_append (a b : List UInt8) : bs a ++ bs b = bs (a ++ b) := by
  unfold bs
  rw [ByteArray.mk_append_mk]
def cb (b : UInt8) : Value := .int .u8 b.toNat
def cbs (l : List UInt8) : List Value := l.map cb
theorem cbs_length (l : List UInt8) : (cbs l).length = l.length := by simp [cbs]
theorem cbs_append (a b : List UInt8) : cbs (a ++ b) = cbs a ++ cbs b := by simp [cbs]
theorem strCells_bs (l : List UInt8) : Lib.strCells (bs l) = cbs l := by simp [Lib.strCells, bs, cbs]; intro b _; rfl
theorem cbs_one (l : List UInt8) : ∀ u ∈ cbs l, u.oneCell' = true := by
  intro u hu
  simp only [cbs, List.mem_map] at hu
  obtain ⟨b, _, rfl⟩ := hu
  rfl
/- the writer in block h has written l; K's blocks are there and not its own -/
def Wr (K : Nat → Prop) (w : World) (h : Nat) (l : List UInt8) : Prop :=
  (∀ k, K k → k < w.heap.size) ∧ ∃ v, w.heap[h]? = some (.cells #[v] 65 (0, 0)) ∧ w.ownsRow 0 5 1 v l.length (cbs l) ∧ ¬ K h ∧ ∀ k, v.ownBlock = some k → ¬ K k
theorem Wr.mono {K K' : Nat → Prop} {w : World} {h : Nat} {l : List UInt8} (hw : Wr K w h l) (hK : ∀ k, K' k → K k) : Wr K' w h l := by
  obtain ⟨hb, v, h1, h2, h3, h4⟩ := hw
  exact ⟨fun k hk => hb k (hK k hk), v, h1, h2, fun e => h3 (hK _ e), fun k hk e => h4 k hk (hK _ e)⟩
theorem Wr.keep {K J : Nat → Prop} {w w' : World} {h : Nat} {l : List UInt8} (hw : Wr K w h l) (hk : Keep J w w') (hJ : ∀ k, ¬ K k → k < w.heap.size → J k) : Wr K w' h l := by
  obtain ⟨hb, v, h1, h2, h3, h4⟩ := hw
  refine ⟨fun k hk' => Nat.lt_of_lt_of_le (hb k hk') hk.size, v, hk.at (hJ _ h3 (lt_of_block h1)) h1, ⟨h2.1, ?_⟩, h3, h4⟩
  rcases h2.2 with hn | ⟨g, cap, cur, rfl, hb, hgg, rest⟩
  · exact .inl hn
  · exact .inr ⟨g, cap, cur, rfl, hb, hk.at (hJ _ (h4 g rfl) (lt_of_block hgg)) hgg, rest⟩
theorem Wr.all {K : Nat → Prop} {w w' : World} {h : Nat} {l : List UInt8} (hw : Wr K w h l) (hb : Below w.heap.size w w') : Wr K w' h l :=
  hw.keep (J := fun _ => True) (Keep.all hb) fun _ _ _ => trivial
theorem Wr.alloc {K : Nat → Prop} {w : World} {h : Nat} {l : List UInt8} (hw : Wr K w h l) (o : Obj) : Wr K (w.alloc o) h l :=
  hw.all ((Below.refl _ _).alloc (Nat.le_refl _) o)
theorem Wr.drew {K : Nat → Prop} {w : World} {h : Nat} {l : List UInt8} (hw : Wr K w h l) : Wr K w.drew h l := hw.all (Below.refl _ _).drew
theorem Wr.lt {K : Nat → Prop} {w : World} {h : Nat} {l : List UInt8} (hw : Wr K w h l) : h < w.heap.size := by
  obtain ⟨_, v, h1, _⟩ := hw
  exact lt_of_block h1
/- a new block becomes one of K's -/
theorem Wr.add {K : Nat → Prop} {w : World} {h : Nat} {l : List UInt8} (hw : Wr K w h l) (o : Obj) : Wr (fun k => K k ∨ k = w.heap.size) (w.alloc o) h l := by
  obtain ⟨hb, v, h1, h2, h3, h4⟩ := hw.alloc o
  have hl := hw.lt
  obtain ⟨_, v0, q1, q2, _, _⟩ := hw
  rw [heap_alloc_old _ _ hl, q1] at h1
  obtain rfl : v0 = v := by simpa using h1
  refine ⟨fun k hk => ?_, v0, by rw [heap_alloc_old _ _ hl]; exact q1, h2, fun e => ?_, fun k hk e => ?_⟩
  · rcases hk with hk | rfl
    · exact hb k hk
    · simp
  · rcases e with e | e
    · exact h3 e
    · omega
  · rcases e with e | e
    · exact h4 k hk e
    · have := (q2.lt k hk).2
      omega
theorem Wr.new {K : Nat → Prop} {w : World} (hK : ∀ k, K k → k < w.heap.size) : Wr K (w.alloc (.cells #[.slice none 0 0] 65)) w.heap.size [] :=
  ⟨fun k hk => Nat.lt_of_lt_of_le (hK k hk) (by simp), _, heap_alloc_new _ _, World.ownsRow_nil _ _ _ _, fun e => Nat.lt_irrefl _ (hK _ e), fun k hk => by simp [Value.ownBlock] at hk⟩
/- the reader in block r reads l, stands at 'at', and has the error e -/
def Rd (w : World) (r : Nat) (l : List UInt8) (p : Nat) (e : Int) : Prop := w.heap[r]? = some (.cells #[.string (bs l), .int .i64 p, .int .i64 e] 116 (0, 0))
theorem Rd.keep {K : Nat → Prop} {w w' : World} {r : Nat} {l p e} (h : Rd w r l p e) (hk : Keep K w w') (hr : K r) : Rd w' r l p e := hk.at hr h
theorem Rd.lt {w : World} {r : Nat} {l p e} (h : Rd w r l p e) : r < w.heap.size := lt_of_block h
theorem Rd.cells {w : World} {r : Nat} {l p e} (h : Rd w r l p e) : w.cell? ⟨r, 0, none⟩ = some (.string (bs l)) ∧ w.cell? ⟨r, 1, none⟩ = some (.int .i64 p) ∧ w.cell? ⟨r, 2, none⟩ = some (.int .i64 e) ∧
    w.frozen? ⟨r, 1, none⟩ = false ∧ w.frozen? ⟨r, 2, none⟩ = false :=
  ⟨cell_of_row _ _ _ _ _ _ h, cell_of_row _ _ _ _ _ _ h, cell_of_row _ _ _ _ _ _ h, frozen_of_row _ _ _ _ _ h, frozen_of_row _ _ _ _ _ h⟩
theorem Rd.setAt {w : World} {r : Nat} {l p e} (h : Rd w r l p e) (q : Nat) : Rd (w.setCell ⟨r, 1, none⟩ (.int .i64 q)) r l q e := by
  unfold Rd at *
  rw [heap_setCell_same w r 1 _ 116 _ h]; rfl
theorem Rd.setErr {w : World} {r : Nat} {l p e} (h : Rd w r l p e) (q : Int) : Rd (w.setCell ⟨r, 2, none⟩ (.int .i64 q)) r l p q := by
  unfold Rd at *
  rw [heap_setCell_same w r 2 _ 116 _ h]; rfl
theorem t25 : Tryz.prog.underlying 63 = some (.slice 5) := by kernel_rfl
theorem t9 : Tryz.prog.underlying 9 = some .string := by kernel_rfl
theorem t5 : Tryz.prog.underlying 5 = some (.int .u8) := by kernel_rfl
theorem i5 : (Tryz.prog.info? 5).map (fun i => (i.zero, i.size, i.bytes)) = some (some (.int .u8 0), 1, 1) := by kernel_rfl
theorem app_str_at (w : World) (v : Value) (n : Nat) (xs : List Value) (hown : w.ownsRow 0 5 1 v n xs) (s : ByteArray) (hb : n + s.size ≤ 140737488355328) :
    ∃ v' w', (Builtin.append_ #[63, 9] 63 #[v, .string s]).run Tryz.prog w = .ok v' w' ∧ w'.ownsRow 0 5 1 v' (n + s.size) (xs ++ Lib.strCells s) ∧ w.grownBy w' v.ownBlock ∧ (v'.ownBlock = v.ownBlock ∨ v'.ownBlock = some w.heap.size) := by
  obtain ⟨i0, hi, hz0, hz1, hz2⟩ := info_parts i5
  have h63 : n + s.size ≤ maxLen := by unfold maxLen; omega
  obtain ⟨v', w', hr, h2, h3, h4⟩ := Lib.run_append_own_string (P := Tryz.prog) w 0 63 9 63 5 i0 t25 t9 hi hz0 hz1 hz2 v n xs hown s h63 hb (Nat.zero_le _)
  refine ⟨v', w', hr, h2, h3, ?_⟩
  rcases hown.2 with ⟨rfl, rfl⟩ | ⟨g, cap, cur, rfl, hbg, hg, hnc, hcm, hcs, htake⟩
  · by_cases hm : s.size = 0
    · rw [h4.2 ⟨rfl, hm⟩]; exact .inl rfl
    · have e := run_append_nil_string (P := Tryz.prog) w 63 9 63 5 i0 (.int .u8 0) t25 t9 hi hz0 s (by omega) (by omega) (by rw [hz2]; omega)
      rw [e] at hr
      cases hr
      exact .inr rfl
  · have hxl : xs.length = n := by simpa using hown.1
    by_cases hroom : n + s.size ≤ cap
    · have hcs' : cur.size = cap := by simpa using hcs
      have e := Lib.run_append_room_string (P := Tryz.prog) w 63 9 63 5 i0 t25 t9 hi hz1 g n cap cur hg s hroom (by omega)
      rw [e] at hr
      cases hr
      exact .inl rfl
    · have e := Lib.run_append_grow_string (P := Tryz.prog) w 63 9 63 5 i0 (.int .u8 0) t25 t9 hi hz0 ⟨g, 0, none⟩ n cap xs (by rw [hz1]; simpa using hxl) (hown.cells (g := g) rfl) s (by omega) (by omega) (by rw [hz2]; exact growslice_fits (by omega) (by omega))
      rw [e] at hr
      cases hr
      exact .inr rfl
/- the writer behind an append whose value was stored -/
theorem app_end {K : Nat → Prop} {w w' : World} {h : Nat} {v v' : Value} {l s : List UInt8} (hb : ∀ k, K k → k < w.heap.size) (h1 : w.heap[h]? = some (.cells #[v] 65 (0, 0))) (hown : w.ownsRow 0 5 1 v l.length (cbs l)) (h3 : ¬ K h) (h4 : ∀ k, v.ownBlock = some k → ¬ K k)
    (ho : w'.ownsRow 0 5 1 v' (l ++ s).length (cbs (l ++ s))) (hg : w.grownBy w' v.ownBlock) (hat : v'.ownBlock = v.ownBlock ∨ v'.ownBlock = some w.heap.size) :
    w'.heap[h]? = some (.cells #[v] 65 (0, 0)) ∧ Wr K (w'.setCell ⟨h, 0, none⟩ v') h (l ++ s) ∧ Keep K w (w'.setCell ⟨h, 0, none⟩ v') := by
  have hne : ∀ k, v.ownBlock = some k → k ≠ h := by
    intro k hk e
    subst e
    rcases hown.2 with ⟨rfl, _⟩ | ⟨g, cap, cur, rfl, hbg, hg', _⟩
    · simp [Value.ownBlock] at hk
    · simp [Value.ownBlock] at hk
      subst hk
      rw [h1] at hg'
      simp at hg'
  have hne2 : some h ≠ v.ownBlock := fun e => hne h e.symm rfl
  have H1 : w'.heap[h]? = some (.cells #[v] 65 (0, 0)) := by rw [hg.block h (lt_of_block h1) hne2]; exact h1
  have hlt := lt_of_block h1
  have hnew : ∀ k, v'.ownBlock = some k → ¬ K k ∧ k ≠ h := by
    intro k hk
    rcases hat with e | e
    · rw [e] at hk; exact ⟨h4 k hk, hne k hk⟩
    · rw [e] at hk
      cases hk
      exact ⟨fun e => Nat.lt_irrefl _ (hb _ e), by omega⟩
  have K1 : Keep K w w' := (Keep.refl K w).grown hg h4
  refine ⟨H1, ⟨fun k hk => Nat.lt_of_lt_of_le (hb k hk) (by simp; exact hg.size), v', one_setCell H1, ?_, h3, fun k hk => (hnew k hk).1⟩, K1.setCell h3 _⟩
  exact ownsRow_setCell_other ho (fun e => (hnew h e).2 rfl) _
theorem owns_shape {w : World} {base : Nat} {e : TypeId} {size : Nat} {v : Value} {n : Nat} {xs : List Value} (h : w.ownsRow base e size v n xs) : ∃ ad cap, v = .slice ad n cap := by
  rcases h.2 with ⟨rfl, rfl⟩ | ⟨g, cap, cur, rfl, _⟩
  · exact ⟨none, 0, rfl⟩
  · exact ⟨_, cap, rfl⟩
theorem app_str {K : Nat → Prop} {w : World} {h : Nat} {l : List UInt8} (hw : Wr K w h l) (s : List UInt8) (hlen : l.length + s.length ≤ 140737488355328) :
    ∃ v ad n cap w', w.heap[h]? = some (.cells #[v] 65 (0, 0)) ∧ (Builtin.append_ #[63, 9] 63 #[v, .string (bs s)]).run Tryz.prog w = .ok (.slice ad n cap) w' ∧ w'.heap[h]? = some (.cells #[v] 65 (0, 0)) ∧
      Wr K (w'.setCell ⟨h, 0, none⟩ (.slice ad n cap)) h (l ++ s) ∧ Keep K w (w'.setCell ⟨h, 0, none⟩ (.slice ad n cap)) := by
  obtain ⟨hb, v, h1, h2, h3, h4⟩ := hw
  obtain ⟨v', w', hr, ho, hg, hat⟩ := app_str_at w v l.length (cbs l) h2 (bs s) (by rw [bs_size]; exact hlen)
  rw [bs_size, strCells_bs, ← cbs_append, ← List.length_append] at ho
  have E := app_end hb h1 h2 h3 h4 ho hg hat
  obtain ⟨ad, cap, rfl⟩ := owns_shape ho
  exact ⟨v, ad, _, cap, w', h1, hr, E⟩
/- the same, of the cells of a block -/
theorem app_blk {K : Nat → Prop} {w : World} {h : Nat} {l : List UInt8} (hw : Wr K w h l) (s : List UInt8) (b t m c : Nat) (fr : Nat × Nat) (hlen : l.length + s.length ≤ 140737488355328) (hB : w.heap[b]? = some (.cells (cbs s).toArray t fr)) (hm : m = s.length) :
    ∃ v ad n cap w', w.heap[h]? = some (.cells #[v] 65 (0, 0)) ∧ (Builtin.append_ #[63, 63] 63 #[v, .slice (some ⟨b, 0, none⟩) m c]).run Tryz.prog w = .ok (.slice ad n cap) w' ∧ w'.heap[h]? = some (.cells #[v] 65 (0, 0)) ∧
      Wr K (w'.setCell ⟨h, 0, none⟩ (.slice ad n cap)) h (l ++ s) ∧ Keep K w (w'.setCell ⟨h, 0, none⟩ (.slice ad n cap)) := by
  subst hm
  obtain ⟨hb, v, h1, h2, h3, h4⟩ := hw
  obtain ⟨i0, hi, hz0, hz1, hz2⟩ := info_parts i5
  have h63 : l.length + s.length ≤ maxLen := by unfold maxLen; omega
  obtain ⟨v', w', hr, ho, hg, -, hat⟩ := run_append_own_at (P := Tryz.prog) w 0 63 63 5 i0 (.int .u8 0) 1 1 t25 hi hz0 hz1 hz2 rfl (by decide) v l.length (cbs l) h2 ⟨b, 0, none⟩ s.length c (cbs s) (by rw [cbs_length, Nat.mul_one])
    (fun j u hj => World.news_of_block hB j u (by simpa using hj)) (cbs_one s) h63 (by omega) (Nat.zero_le _)
  rw [← cbs_append, ← List.length_append] at ho
  have E := app_end hb h1 h2 h3 h4 ho hg hat
  obtain ⟨ad, cap, rfl⟩ := owns_shape ho
  exact ⟨v, ad, _, cap, w', h1, hr, E⟩
section
variable {P : Program}
/- an append's run as a step of a region that draws -/
theorem step_append_run {ops : Array Oper} {o : Oper} {a : Act} {w : World} {K : Act → World → Prop} {Q : Exit → Act → World → Prop} {E : Prop}
    (hg : o.guard = none) (s x : Operand) (t u : TypeId) (hop : o.op = Op.call { callee := Callee.builtin Builtin.append, args := #[s, x], argTypes := #[t, u] })
    (vs vx v' : Value) (w' : World) (hs : a.eval s = vs) (hx : a.eval x = vx) (hrun : (Builtin.append_ #[t, u] o.type #[vs, vx]).run P w = .ok v' w')
    (hK : K (a.put o.dst v') w') :
    if Region.wanted o (yielded ops a.tmps) = true then Oper.wp P o a w K Q else E := by
  have hw : Region.wanted o (yielded ops a.tmps) = true := by simp [Region.wanted, hg]
  rw [if_pos hw]
  unfold Oper.wp
  simp [execOp, hop, resolve, invoke, builtin, hs, hx, hrun, Result.andThen]
  exact hK
/- the same at the list of a plain region's operations -/
theorem wpList_append_run {ops : Array Oper} {rest : List Oper} {o : Oper} {a : Act} {w : World} {Q : Exit → Act → World → Prop} (hgd : o.guard = none) (s x : Operand) (t u : TypeId)
    (ho : o.op = .call { callee := .builtin .append, args := #[s, x], argTypes := #[t, u] })
    (vs vx v' : Value) (w' : World) (hs : a.eval s = vs) (hx : a.eval x = vx) (hrun : (Builtin.append_ #[t, u] o.type #[vs, vx]).run P w = .ok v' w')
    (h : wpList P ops Q rest (a.put o.dst v') w') : wpList P ops Q (o :: rest) a w := by
  refine wpList_plain hgd fun K hK => ?_
  unfold Oper.wp execOp
  simp only [ho, resolve, invoke, builtin, Sem.run_bind, Sem.run_pure, Result.andThen_ok, List.map_toArray, List.map_cons, List.map_nil, hs, hx, hrun]
  exact hK _ _ h
end
end Go.Proofs.YtnmjcpoobabjgaaGreatDoor
/- The writer's numbers. -/
namespace Go.Proofs.YtnmjcpoobabjgaaGreatDoor
open Go.RowKit
theorem app_byte {K : Nat → Prop} {w : World} {h : Nat} {l : List UInt8} (hw : Wr K w h l) (b : UInt8) (x : Int) (hx : x = b.toNat) (hlen : l.length + 1 ≤ 140737488355328) :
    ∃ v ad n cap w', w.cell? ⟨h, 0, none⟩ = some v ∧ (Builtin.append_ #[63, 63] 63 #[v, .slice (some ⟨w.heap.size, 0, none⟩) 1 1]).run Tryz.prog (w.alloc (.cells #[.int .u8 x] 5)) = .ok (.slice ad n cap) w' ∧
      w'.cell? ⟨h, 0, none⟩ = some v ∧ w'.frozen? ⟨h, 0, none⟩ = false ∧ Wr K (w'.setCell ⟨h, 0, none⟩ (.slice ad n cap)) h (l ++ [b]) ∧ Keep K w (w'.setCell ⟨h, 0, none⟩ (.slice ad n cap)) := by
  subst hx
  obtain ⟨v, ad, n, cap, w', h1, hr, h2, h3, h4⟩ := app_blk (hw.alloc (.cells #[.int .u8 b.toNat] 5)) [b] w.heap.size 5 1 1 (0, 0) hlen (by rw [heap_alloc_new]; rfl) rfl
  rw [heap_alloc_old _ _ hw.lt] at h1
  exact ⟨v, ad, n, cap, w', cell_of_one h1, hr, cell_of_one h2, free_of_one h2, h3, ((Keep.refl K w).alloc _).trans h4⟩
set_option maxHeartbeats 400000 in
set_option maxRecDepth 100000 in
theorem wnum_any {K : Nat → Prop} {w : World} {h : Nat} {l : List UInt8} (n : Nat) (hw : Wr K w h l) (hn : n ≤ 1099511627775) (hl : l.length ≤ 1099511627776) :
    Calls Tryz.prog 48 #[.pointer (some ⟨h, 0, none⟩), .int .i64 n] w fun e w' => e = .returned (.tuple #[]) ∧ Wr K w' h (l ++ dg n) ∧ Keep K w w' := by
  go_enter Tryz.func48, Tryz.ntmps48
  go_wp2
  go_loopw [1] (fun i wr => ∃ (m : Nat) (pre : List UInt8), i = .int .i64 m ∧ m ≤ n ∧ Hid (pre ++ dg m = dg n) ∧ Wr K wr h (l ++ pre) ∧ Keep K w wr) (fun i _ => (intOf i).toNat)
  case atStart => exact ⟨n, [], rfl, Nat.le_refl _, rfl, by rw [List.append_nil]; exact hw, Keep.refl _ _⟩
  case round =>
    obtain ⟨m, pre, rfl, hm, hd, hW, hK⟩ := hrel
    have hpl : pre.length ≤ 6 := by
      have h1 := congrArg List.length hd.out
      rw [List.length_append] at h1
      have h2 := dg_le n 0 (by omega) (by omega)
      omega
    by_cases c : m < 128
    · obtain ⟨v, ad, z, cap, w', C1, hr, C2, F2, hW', hK'⟩ := app_byte hW (UInt8.ofNat m) m (by rw [ofNat_toNat_small (by omega)]) (by simp; omega)
      have R := Lib.hid (And.intro hW' (hK.trans hK'))
      have c1 : decide ((128 : Int) ≤ (m : Int)) = false := by simp; omega
      have c2 : (m : Int) < 128 := by omega
      clear hW' hK' hW hK hpl
      go_wp2_with (at_builtin; refine wpList_append_run rfl (.tmp 25) (.tmp 28) 63 63 rfl _ _ _ _ rfl rfl hr ?_)
      have hd2 := hd.out
      rw [dg_low c] at hd2
      rw [List.append_assoc, hd2] at R
      go_end0
      exact ⟨rfl, R.out⟩
    · have hdg : pre ++ [UInt8.ofNat (m % 128 + 128)] ++ dg (m / 128) = dg n := by
        rw [← hd.out, dg_high c]; simp
      have e1 : (m : Int).tmod 128 = (m : Int) % 128 := Int.tmod_eq_emod_of_nonneg (by omega)
      have e2 : (m : Int).tdiv 128 = ((m / 128 : Nat) : Int) := by rw [Int.tdiv_eq_ediv_of_nonneg (by omega)]; omega
      obtain ⟨v, ad, z, cap, w', C1, hr, C2, F2, hW', hK'⟩ := app_byte hW (UInt8.ofNat (m % 128 + 128)) ((m : Int) % 128 + 128) (by rw [ofNat_toNat_small (by omega)]; omega) (by simp; omega)
      have R := Lib.hid (And.intro hW' (hK.trans hK'))
      have c1 : (128 : Int) ≤ (m : Int) := by omega
      have Hd := Lib.hid hdg
      clear hW' hK' hW hK hpl hdg
      go_wp2_with (at_builtin; refine wpList_append_run rfl (.tmp 10) (.tmp 15) 63 63 rfl _ _ _ _ rfl rfl hr ?_)
      go_roundw
      case rel => exact ⟨m / 128, pre ++ [UInt8.ofNat (m % 128 + 128)], by go_num, by omega, Hd.out, by rw [← List.append_assoc]; exact R.out.1, R.out.2⟩
      case measure => simp [intOf]; omega
/- what a slice of values says: element i is what f tells -/
/- the numbers of a list, one behind the other -/
set_option maxHeartbeats 400000 in
set_option maxRecDepth 100000 in
theorem wnum1_any {K : Nat → Prop} {w : World} {h : Nat} {l : List UInt8} (n : Int) (b : Nat) (hw : Wr K w h l) (hc : w.cell? ⟨b, 0, none⟩ = some (.int .i64 n)) (hb : b ≠ h) (hl : l.length ≤ 1099511627776) :
    Calls Tryz.prog 26 #[.pointer (some ⟨h, 0, none⟩), .slice (some ⟨b, 0, none⟩) 1 1] w fun e w' => e = .returned (.tuple #[]) ∧ Wr K w' h (l ++ dg (clamp n)) ∧ Keep K w w' := by
  have H : Hid (∀ x : Int, x = ((clamp n : Nat) : Int) → Calls Tryz.prog 48 #[.pointer (some ⟨h, 0, none⟩), .int .i64 x] w fun e w' => e = .returned (.tuple #[]) ∧ Wr K w' h (l ++ dg (clamp n)) ∧ Keep K w w') := by
    rintro _ rfl
    exact wnum_any (clamp n) hw (clamp_le n) hl
  go_enter Tryz.func26, Tryz.ntmps26
  go_wp2
  refine wp_loop_rounds 2 ?_
  rw [rounds_succ]
  go_wp2_with fail
  all_goals (refine (H.out _ (by unfold clamp; omega)).mono ?_)
  all_goals (rintro e w1 ⟨rfl, h1, h2⟩)
  all_goals go_wp2
  all_goals rw [rounds_succ]
  all_goals go_wp2
  all_goals go_end0
  all_goals exact ⟨rfl, h1, h2⟩
/- a nil writer -/
end Go.Proofs.YtnmjcpoobabjgaaGreatDoor
/- The writer's bytes, texts and ids, and what it has. -/
namespace Go.Proofs.YtnmjcpoobabjgaaGreatDoor
open Go.RowKit
set_option maxHeartbeats 400000 in
set_option maxRecDepth 100000 in
theorem wraw_any {K : Nat → Prop} {w : World} {h : Nat} {l : List UInt8} (s : List UInt8) (b : Nat) (hw : Wr K w h l) (hc : w.cell? ⟨b, 0, none⟩ = some (.string (bs s))) (hl : l.length + s.length ≤ 140737488355328) :
    Calls Tryz.prog 25 #[.pointer (some ⟨h, 0, none⟩), .slice (some ⟨b, 0, none⟩) 1 1] w fun e w' => e = .returned (.tuple #[]) ∧ Wr K w' h (l ++ s) ∧ Keep K w w' := by
  obtain ⟨v, ad, n, cap, w', h1, hr, h2, hW', hK'⟩ := app_str hw s hl
  have C1 := cell_of_one h1
  have C2 := cell_of_one h2
  have F2 := free_of_one h2
  have R := Lib.hid (And.intro hW' hK')
  obtain ⟨sb, hsb⟩ : ∃ sb, sb = bs s := ⟨_, rfl⟩
  rw [← hsb] at hc hr
  clear hW' hK' hw h1 h2 hsb
  go_enter Tryz.func25, Tryz.ntmps25
  go_wp2
  refine wp_loop_rounds 2 ?_
  rw [rounds_succ]
  go_wp2_with (at_builtin; refine wpList_append_run rfl (.tmp 18) (.tmp 19) 63 9 rfl _ _ _ _ rfl rfl hr ?_)
  rw [rounds_succ]
  go_wp2
  go_end0
  exact ⟨rfl, R.out⟩
set_option maxHeartbeats 400000 in
set_option maxRecDepth 100000 in
theorem wtext_any {K : Nat → Prop} {w : World} {h : Nat} {l : List UInt8} (s : List UInt8) (b : Nat) (hw : Wr K w h l) (hc : w.cell? ⟨b, 0, none⟩ = some (.string (bs s))) (hl : l.length + s.length ≤ 1099511627770) :
    Calls Tryz.prog 28 #[.pointer (some ⟨h, 0, none⟩), .slice (some ⟨b, 0, none⟩) 1 1] w fun e w' => e = .returned (.tuple #[]) ∧ Wr K w' h (l ++ tx s) ∧ Keep K w w' := by
  obtain ⟨sb, hsb⟩ : ∃ sb, sb = bs s := ⟨_, rfl⟩
  have hz : sb.size = s.length := by rw [hsb, bs_size]
  rw [← hsb] at hc
  have H1 := wnum1_any (s.length : Int) w.heap.size (hw.alloc (.cells #[.int .i64 (s.length : Int)] 3)) (cell_of_one (heap_alloc_new _ _)) (by have := hw.lt; omega) (by omega)
  rw [← hz] at H1
  have hd := dg_le (clamp (s.length : Int)) 0 (by have := clamp_le (s.length : Int); omega) (by omega)
  have H2 : Hid (∀ w1 x : World, x = w1.alloc (.cells #[.string sb] 9) → Wr K w1 h (l ++ dg (clamp (sb.size : Int))) → Calls Tryz.prog 25 #[.pointer (some ⟨h, 0, none⟩), .slice (some ⟨w1.heap.size, 0, none⟩) 1 1] x fun e w' => e = .returned (.tuple #[]) ∧ Wr K w' h (l ++ tx s) ∧ Keep K w1 w') := by
    rintro w1 _ rfl h1
    refine (wraw_any s w1.heap.size (h1.alloc (.cells #[.string sb] 9)) (by rw [hsb]; exact cell_of_one (heap_alloc_new _ _)) (by rw [List.length_append, hz]; omega)).mono ?_
    rintro e w' ⟨rfl, g1, g2⟩
    rw [List.append_assoc, hz] at g1
    exact ⟨rfl, g1, ((Keep.refl K w1).alloc _).trans g2⟩
  have K0 : Hid (Keep K w (w.alloc (.cells #[.int .i64 (sb.size : Int)] 3))) := (Keep.refl K w).alloc _
  have HW := Lib.hid hw
  have HS := Lib.hid hsb
  clear hw hz hd hsb hl
  go_enter Tryz.func28, Tryz.ntmps28
  go_wp2
  refine wp_loop_rounds 2 ?_
  rw [rounds_succ]
  go_wp2_with fail
  refine H1.mono ?_
  rintro e w1 ⟨rfl, g1, g2⟩
  have G1 := Lib.hid g1
  have G2 := Lib.hid (K0.out.trans g2)
  clear g1 g2
  go_wp2_with fail
  refine (H2.out _ _ rfl G1.out).mono ?_
  rintro e w2 ⟨rfl, g1, g2⟩
  go_wp2
  rw [rounds_succ]
  go_wp2
  go_end0
  exact ⟨rfl, g1, G2.out.trans g2⟩
end Go.Proofs.YtnmjcpoobabjgaaGreatDoor
/- The writer's ids, and what it has. -/
namespace Go.Proofs.YtnmjcpoobabjgaaGreatDoor
open Go.RowKit
def bv (f : Nat → UInt8) (i : Nat) : Value := cb (f i)
def idL (f : Nat → UInt8) : List UInt8 := (List.range 32).map f
theorem idL_length (f : Nat → UInt8) : (idL f).length = 32 := by simp [idL]
theorem ty30 : Tryz.prog.underlying 37 = some (.array 32 5) := by kernel_rfl
theorem sz30 : (Tryz.prog.info? 37).map (·.size) = some 32 := by kernel_rfl
theorem conv_wr {K : Nat → Prop} {w : World} {h : Nat} {l : List UInt8} (hw : Wr K w h l) : ∃ ad n cap, w.cell? ⟨h, 0, none⟩ = some (.slice ad n cap) ∧ (convert 63 9 (.slice ad n cap)).run Tryz.prog w = .ok (.string (bs l)) w := by
  obtain ⟨_, v, h1, h2, _, _⟩ := hw
  have C := cell_of_one h1
  rcases h2.2 with ⟨rfl, hz⟩ | ⟨g, cap, cur, rfl, _⟩
  · have hl : l = [] := List.eq_nil_of_length_eq_zero hz
    subst hl
    exact ⟨none, 0, 0, C, by simp [convert, run_underlying t25, run_underlying t9, run_underlying t5, Conv.bytesToString, loadCells, loadCellsFrom, bs]; rfl⟩
  · refine ⟨_, _, _, C, ?_⟩
    exact run_convert_bytes_back (P := Tryz.prog) w 63 9 5 ⟨g, 0, none⟩ cap l t25 t5 t9 (fun j hj => by
      have := h2.cells (g := g) rfl j (cb l[j]) (by simp [cbs, hj])
      exact this)
set_option maxHeartbeats 400000 in
set_option maxRecDepth 100000 in
theorem wstr_any {K : Nat → Prop} {w : World} {h : Nat} {l : List UInt8} (hw : Wr K w h l) :
    Calls Tryz.prog 30 #[.pointer (some ⟨h, 0, none⟩)] w fun e w' => e = .returned (.string (bs l)) ∧ w = w' := by
  obtain ⟨ad, n, cap, C, hc⟩ := conv_wr hw
  obtain ⟨sb, hsb⟩ : ∃ sb, sb = bs l := ⟨_, rfl⟩
  rw [← hsb] at hc ⊢
  clear hw hsb
  go_enter Tryz.func30, Tryz.ntmps30
  go_wp2
  go_ret
  exact ⟨rfl, rfl⟩
end Go.Proofs.YtnmjcpoobabjgaaGreatDoor
/- Whole numbers as floats of 64 bits: sums, differences, products, comparisons and conversions are exact below 2 to the 53rd. -/
namespace Go.Proofs.YtnmjcpoobabjgaaGreatDoor.Mt
open Ieee
/- a datum that stands for a whole number; of 0 the sign is left open -/
def FiD (d : Datum) (n : Int) : Prop := ∃ (s : Bool) (k : Nat), d = .number s (n.natAbs * 2 ^ k) (-(k : Int)) ∧ (n ≠ 0 → s = decide (n < 0))
def Fi (b : Nat) (n : Int) : Prop := FiD (double.read b) n
theorem signed_fi {s : Bool} {n : Int} (k u : Nat) (h : n ≠ 0 → s = decide (n < 0)) : signed s (n.natAbs * 2 ^ k) u = n * 2 ^ (k + u) := by
  unfold signed
  rw [Nat.shiftLeft_eq, Nat.mul_assoc, ← Nat.pow_add]
  by_cases h0 : n = 0
  · subst h0
    simp
  · rw [h h0]
    by_cases hn : n < 0
    · rw [if_pos (by simpa using hn), Int.natCast_mul, Int.natCast_pow, Int.ofNat_natAbs_of_nonpos (by omega), Int.neg_mul, Int.neg_neg]; rfl
    · rw [if_neg (by simpa using hn), Int.natCast_mul, Int.natCast_pow, Int.natAbs_of_nonneg (by omega)]; rfl
theorem cut_exact (way : Toward) (sg : Bool) (c drop : Nat) (hc : 0 < c) : way.cut sg (c * 2 ^ drop) drop = c := by
  have h2 : 0 < 2 ^ drop := Nat.two_pow_pos _
  have hl : drop ≤ (c * 2 ^ drop).log2 := by
    rw [Nat.le_log2 (by exact Nat.ne_of_gt (Nat.mul_pos hc h2))]
    exact Nat.le_mul_of_pos_left _ hc
  unfold Toward.cut
  rw [Nat.min_eq_left (by omega), Nat.shiftLeft_eq, Nat.one_mul]
  simp only [Nat.mul_div_cancel _ h2, Nat.mul_mod_left]
  cases way <;> simp
theorem read_word (sg : Bool) (r : Nat) (h : r < 9223372036854775808) : (double.word sg r) / double.signWeight % 2 = sg.toNat ∧ (double.word sg r) % double.signWeight = r := by
  have e : double.signWeight = 9223372036854775808 := by decide
  unfold Format.word
  rw [e]
  cases sg
  · simp only [Bool.false_eq_true, if_false, Bool.toNat_false]; omega
  · simp only [if_true, Bool.toNat_true]; omega
theorem log2_scaled (m M : Nat) (hm : 0 < m) : (m * 2 ^ M).log2 = m.log2 + M := by
  have h2 : 0 < 2 ^ M := Nat.two_pow_pos _
  have h1 := (Nat.log2_eq_iff (n := m) (k := m.log2) (by omega)).1 rfl
  refine (Nat.log2_eq_iff (Nat.ne_of_gt (Nat.mul_pos hm h2))).2 ⟨?_, ?_⟩
  · rw [Nat.pow_add]; exact Nat.mul_le_mul_right _ h1.1
  · rw [show m.log2 + M + 1 = m.log2 + 1 + M by omega, Nat.pow_add]; exact Nat.mul_lt_mul_of_pos_right h1.2 h2
/- a number that the format has is read as it was written -/
theorem read_nearest (sg : Bool) (m M : Nat) (hm : 0 < m) (hb : m < 9007199254740992) : double.read (double.nearest sg (m * 2 ^ M) (-(M : Int))) = .number sg (m * 2 ^ (52 - m.log2)) (-((52 - m.log2 : Nat) : Int)) := by
  have h2 : 0 < 2 ^ M := Nat.two_pow_pos _
  have hl := (Nat.log2_eq_iff (n := m) (k := m.log2) (by omega)).1 rfl
  have hL : m.log2 ≤ 52 := by
    have : m.log2 < 53 := (Nat.log2_lt (by omega)).2 hb
    omega
  have hlog := log2_scaled m M hm
  generalize m.log2 = L at *
  have e1 : double.fractionBits = 52 := rfl
  have e2 : double.leastPlace = -1074 := by decide
  have e3 : double.binade = 4503599627370496 := by decide
  have e4 : double.infRung = 9218868437227405312 := by decide
  have c1 : 4503599627370496 ≤ m * 2 ^ (52 - L) := by
    have := Nat.mul_le_mul_right (2 ^ (52 - L)) hl.1
    rw [← Nat.pow_add, show L + (52 - L) = 52 by omega] at this
    exact this
  have c2 : m * 2 ^ (52 - L) < 9007199254740992 := by
    have := Nat.mul_lt_mul_of_pos_right hl.2 (Nat.two_pow_pos (52 - L))
    rw [← Nat.pow_add, show L + 1 + (52 - L) = 53 by omega] at this
    exact this
  have hnear : double.nearest sg (m * 2 ^ M) (-(M : Int)) = double.word sg ((L + 1022) * 4503599627370496 + m * 2 ^ (52 - L)) := by
    unfold Format.nearest
    rw [if_neg (Nat.ne_of_gt (Nat.mul_pos hm h2)), hlog, e1, e2, e3, e4]
    have hlast : max (-(M : Int) + ((L + M : Nat) : Int) - ((52 : Nat) : Int)) (-1074) = (L : Int) - 52 := by omega
    dsimp only
    rw [hlast]
    have ha : (m * 2 ^ M) <<< (-(M : Int) - ((L : Int) - 52)).toNat = m * 2 ^ (52 - L) * 2 ^ ((L : Int) - 52 - -(M : Int)).toNat := by
      rw [Nat.shiftLeft_eq, Nat.mul_assoc, Nat.mul_assoc, ← Nat.pow_add, ← Nat.pow_add]
      congr 2
      omega
    rw [ha, cut_exact _ _ _ _ (by omega), show ((L : Int) - 52 - -1074).toNat = L + 1022 by omega, Nat.min_eq_left (by omega)]
  rw [hnear]
  generalize m * 2 ^ (52 - L) = c at *
  obtain ⟨w1, w2⟩ := read_word sg ((L + 1022) * 4503599627370496 + c) (by omega)
  unfold Format.read
  rw [w1, w2, e2, e3, e4]
  dsimp only
  rw [if_neg (by omega), if_pos (by omega), show (L + 1022) * 4503599627370496 + c = (L + 1023) * 4503599627370496 + (c - 4503599627370496) by omega]
  rw [show ((L + 1023) * 4503599627370496 + (c - 4503599627370496)) % 4503599627370496 = c - 4503599627370496 by omega,
    show ((L + 1023) * 4503599627370496 + (c - 4503599627370496)) / 4503599627370496 = L + 1023 by omega,
    show 4503599627370496 + (c - 4503599627370496) = c by omega]
  have e5 : (-1074 : Int) + ((L + 1023 - 1 : Nat) : Int) = -((52 - L : Nat) : Int) := by omega
  rw [e5]
  cases sg <;> rfl
theorem read_zero (sg : Bool) (p : Int) : double.read (double.nearest sg 0 p) = .number sg 0 (-1074) := by
  have : double.nearest sg 0 p = double.word sg 0 := by unfold Format.nearest; rw [if_pos rfl]
  rw [this]
  cases sg <;> decide +kernel
/- what is written of a whole number stands for it -/
theorem write_fi {sg : Bool} {c : Int} (M : Nat) (hs : c ≠ 0 → sg = decide (c < 0)) (hc : c.natAbs < 9007199254740992) : Fi (double.write (.number sg (c.natAbs * 2 ^ M) (-(M : Int)))) c := by
  unfold Fi Format.write
  by_cases h0 : c = 0
  · subst h0
    obtain ⟨k, hk⟩ : ∃ k, k = 1074 := ⟨_, rfl⟩
    refine ⟨sg, k, ?_, fun h => absurd rfl h⟩
    dsimp only
    rw [Int.natAbs_zero, Nat.zero_mul, Nat.zero_mul, read_zero, hk]
    rfl
  · exact ⟨sg, _, read_nearest sg c.natAbs M (by omega) hc, hs⟩
theorem FiD.opposite {d : Datum} {n : Int} (h : FiD d n) : FiD d.opposite (-n) := by
  obtain ⟨s, k, rfl, hs⟩ := h
  refine ⟨!s, k, by rw [Int.natAbs_neg]; rfl, fun hn => ?_⟩
  have h0 : n ≠ 0 := by omega
  rw [hs h0]
  by_cases c : n < 0
  · rw [decide_eq_true c, decide_eq_false (by omega)]; rfl
  · rw [decide_eq_false c, decide_eq_true (by omega)]; rfl
theorem pow_pos_int (M : Nat) : (0 : Int) < 2 ^ M := Int.pow_pos (by decide)
theorem cmp_scaled (a b : Int) (M : Nat) : compare (a * 2 ^ M) (b * 2 ^ M) = compare a b := by
  have hp := pow_pos_int M
  have h1 : (a * 2 ^ M < b * 2 ^ M) = (a < b) := propext (Int.mul_lt_mul_right hp)
  have h2 : (a * 2 ^ M = b * 2 ^ M) = (a = b) := propext ⟨fun h => Int.eq_of_mul_eq_mul_right (by omega) h, fun h => by rw [h]⟩
  simp only [compare, compareOfLessAndEq, h1, h2]
theorem order_fi {x y : Nat} {a b : Int} (hx : Fi x a) (hy : Fi y b) : double.order x y = some (compare a b) := by
  obtain ⟨s, k, hx, hs⟩ := hx
  obtain ⟨t, l, hy, ht⟩ := hy
  obtain ⟨M, hM⟩ : ∃ M, M = max k l := ⟨_, rfl⟩
  have hbase : min (-(k : Int)) (-(l : Int)) = -(M : Int) := by omega
  unfold Format.order
  rw [hx, hy]
  unfold Datum.order
  dsimp only
  rw [hbase, signed_fi k _ hs, signed_fi l _ ht, show k + (-(k : Int) - -(M : Int)).toNat = M by omega, show l + (-(l : Int) - -(M : Int)).toNat = M by omega, cmp_scaled]
theorem of_int_fi {n : Int} (hn : n.natAbs < 9007199254740992) : Fi (floatOfInt .f64 n) n := by
  have := write_fi (sg := decide (n < 0)) (c := n) 0 (fun _ => rfl) hn
  rw [Nat.pow_zero, Nat.mul_one] at this
  exact this
theorem to_int_fi {b : Nat} {n : Int} (h : Fi b n) (h1 : -9223372036854775808 ≤ n) (h2 : n ≤ 9223372036854775807) : floatToIntVal .f64 b .i64 = some n := by
  obtain ⟨s, k, h, hs⟩ := h
  have hd : (FloatKind.f64.decode b).toInt .zero = some n := by
    show (double.read b).toInt .zero = some n
    rw [h]
    unfold Datum.toInt Datum.integral
    dsimp only
    rw [show (-(k : Int)).toNat = 0 by omega, show (- -(k : Int)).toNat = k by omega, Nat.shiftLeft_zero]
    have hc : Toward.zero.cut s (n.natAbs * 2 ^ k) k = n.natAbs * 2 ^ 0 := by
      by_cases h0 : n = 0
      · subst h0
        simp [Toward.cut]
      · rw [cut_exact _ _ _ _ (by omega), Nat.pow_zero, Nat.mul_one]
    rw [hc, signed_fi 0 0 hs, Int.pow_zero, Int.mul_one]
  unfold floatToIntVal
  rw [hd]
  have e1 : IntKind.i64.min = -9223372036854775808 := by decide
  have e2 : IntKind.i64.max = 9223372036854775807 := by decide
  dsimp only
  rw [e1, e2, if_pos ⟨h1, h2⟩]
end Go.Proofs.YtnmjcpoobabjgaaGreatDoor.Mt
