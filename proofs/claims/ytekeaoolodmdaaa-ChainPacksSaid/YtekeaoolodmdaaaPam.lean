import Derived.WalkKit
import Derived.WalkSpells
import Derived.WalkSmall
import Derived.Deep.Draws
import Derived.Deep.MidRow
import Derived.Laws.CopyOwn
/- Pure facts on the digits of a number and on reading them, over lists of bytes. -/
namespace Go.Proofs.Ytekeaoolodmdaaa
/- a number's bytes -/
def dg (n : Nat) : List UInt8 := if n < 128 then [UInt8.ofNat n] else UInt8.ofNat (n % 128 + 128) :: dg (n / 128)
termination_by n
decreasing_by omega
theorem dg_low {n : Nat} (h : n < 128) : dg n = [UInt8.ofNat n] := by rw [dg, if_pos h]
theorem dg_high {n : Nat} (h : ¬ n < 128) : dg n = UInt8.ofNat (n % 128 + 128) :: dg (n / 128) := by rw [dg, if_neg h]
theorem ofNat_toNat_small {n : Nat} (h : n < 256) : (UInt8.ofNat n).toNat = n := by rw [UInt8.toNat_ofNat']; omega
theorem ofNat_of_toNat {b : UInt8} {n : Nat} (h : n = b.toNat) : UInt8.ofNat n = b := by subst h; simp
/- reading a number of at most 'most' of a list of bytes, k digits of it behind, their sum acc: the number, how many bytes, the error -/
def rd (most : Int) : List UInt8 → Nat → Nat → Nat × Nat × Int
  | [], k, _ => if k = 6 then (0, 0, 4) else (0, 0, 3)
  | b :: t, k, acc =>
    if k = 6 then (0, 0, 4) else
    if 128 ≤ b.toNat then rd most t (k + 1) (acc + b.toNat % 128 * 128 ^ k) else
    if b.toNat = 0 ∧ 0 < k then (0, 0, 2) else
    if 1099511627775 < acc + b.toNat % 128 * 128 ^ k ∨ most < ((acc + b.toNat % 128 * 128 ^ k : Nat) : Int) then (0, 0, 4) else (acc + b.toNat % 128 * 128 ^ k, k + 1, 0)
theorem pow_big {m k : Nat} (hm : 0 < m) (h : m * 128 ^ k ≤ 1099511627775) : k ≤ 5 := by
  rcases Nat.lt_or_ge k 6 with hk | hk
  · omega
  · have h1 : 128 ^ 6 ≤ 128 ^ k := Nat.pow_le_pow_right (by decide) hk
    have h2 : 128 ^ k ≤ m * 128 ^ k := Nat.le_mul_of_pos_left _ hm
    have h3 : (128 : Nat) ^ 6 = 4398046511104 := by decide
    omega
theorem split_mul (n k : Nat) : n % 128 * 128 ^ k + n / 128 * 128 ^ (k + 1) = n * 128 ^ k := by
  rw [Nat.pow_succ, Nat.mul_comm (128 ^ k) 128, ← Nat.mul_assoc, ← Nat.add_mul]
  congr 1
  omega
theorem rd_dg (most : Int) (rest : List UInt8) : ∀ (n k acc : Nat), k ≤ 5 → acc + n * 128 ^ k ≤ 1099511627775 → ((acc + n * 128 ^ k : Nat) : Int) ≤ most → (0 < n ∨ k = 0) →
    rd most (dg n ++ rest) k acc = (acc + n * 128 ^ k, k + (dg n).length, 0) := by
  intro n
  induction n using Nat.strongRecOn with
  | _ n ih =>
    intro k acc hk h1 h2 h3
    by_cases hn : n < 128
    · rw [dg_low hn]
      have e : (UInt8.ofNat n).toNat = n := ofNat_toNat_small (by omega)
      simp only [List.cons_append, List.nil_append, rd, e, List.length_singleton]
      rw [Nat.mod_eq_of_lt hn, if_neg (by omega), if_neg (by omega), if_neg (by omega), if_neg (by omega)]
    · rw [dg_high hn]
      have e : (UInt8.ofNat (n % 128 + 128)).toNat = n % 128 + 128 := ofNat_toNat_small (by omega)
      simp only [List.cons_append, rd, e, List.length_cons]
      have hs := split_mul n k
      have hk1 : k + 1 ≤ 5 := pow_big (m := n / 128) (by omega) (by omega)
      rw [if_neg (by omega), if_pos (by omega), show (n % 128 + 128) % 128 = n % 128 by omega]
      rw [ih (n / 128) (by omega) (k + 1) _ hk1 (by omega) (by omega) (Or.inl (by omega))]
      rw [show acc + n % 128 * 128 ^ k + n / 128 * 128 ^ (k + 1) = acc + n * 128 ^ k by omega, show k + 1 + (dg (n / 128)).length = k + ((dg (n / 128)).length + 1) by omega]
theorem rd_one (most : Int) : ∀ (l : List UInt8) (k acc n size : Nat), rd most l k acc = (n, size, 0) →
    ∃ m rest, l = dg m ++ rest ∧ n = acc + m * 128 ^ k ∧ size = k + (dg m).length ∧ n ≤ 1099511627775 ∧ (n : Int) ≤ most ∧ (0 < k → 0 < m) := by
  intro l
  induction l with
  | nil => intro k acc n size h; unfold rd at h; split at h <;> simp at h
  | cons b t ih =>
    intro k acc n size h
    unfold rd at h
    split at h
    · simp at h
    · split at h
      · obtain ⟨m, rest, h1, h2, h3, h4, h5, h6⟩ := ih _ _ _ _ h
        have hb := b.toNat_lt
        have hm := h6 (by omega)
        refine ⟨m * 128 + b.toNat % 128, rest, ?_, ?_, ?_, h4, h5, fun _ => by omega⟩
        · rw [dg_high (by omega), show (m * 128 + b.toNat % 128) % 128 + 128 = b.toNat by omega, show (m * 128 + b.toNat % 128) / 128 = m by omega, h1, ofNat_of_toNat rfl]; rfl
        · have hs := split_mul (m * 128 + b.toNat % 128) k
          rw [show (m * 128 + b.toNat % 128) % 128 = b.toNat % 128 by omega, show (m * 128 + b.toNat % 128) / 128 = m by omega] at hs
          omega
        · rw [dg_high (by omega), show (m * 128 + b.toNat % 128) / 128 = m by omega, List.length_cons]; omega
      · split at h
        · simp at h
        · split at h
          · simp at h
          · simp only [Prod.mk.injEq, and_true] at h
            have hb : b.toNat < 128 := by omega
            refine ⟨b.toNat, t, ?_, ?_, ?_, by omega, by omega, fun _ => by omega⟩
            · rw [dg_low hb, ofNat_of_toNat rfl]; rfl
            · rw [← h.1, Nat.mod_eq_of_lt hb]
            · rw [dg_low hb, ← h.2]; rfl
theorem rd_cut (most : Int) : ∀ (n k acc j : Nat), k ≤ 5 → acc + n * 128 ^ k ≤ 1099511627775 → j < (dg n).length → rd most ((dg n).take j) k acc = (0, 0, 3) := by
  intro n
  induction n using Nat.strongRecOn with
  | _ n ih =>
    intro k acc j hk h1 hj
    by_cases hn : n < 128
    · rw [dg_low hn] at hj ⊢
      simp at hj
      subst hj
      simp only [List.take_zero, rd]
      rw [if_neg (by omega)]
    · rw [dg_high hn] at hj ⊢
      have e : (UInt8.ofNat (n % 128 + 128)).toNat = n % 128 + 128 := ofNat_toNat_small (by omega)
      have hs := split_mul n k
      have hk1 : k + 1 ≤ 5 := pow_big (m := n / 128) (by omega) (by omega)
      cases j with
      | zero => simp only [List.take_zero, rd]; rw [if_neg (by omega)]
      | succ j =>
        simp only [List.take_succ_cons, rd, e]
        rw [if_neg (by omega), if_pos (by omega), show (n % 128 + 128) % 128 = n % 128 by omega]
        exact ih (n / 128) (by omega) (k + 1) _ j hk1 (by omega) (by simpa using hj)
theorem dg_pos (n : Nat) : 0 < (dg n).length := by
  rw [dg]; split <;> simp
theorem dg_le : ∀ (n k : Nat), n * 128 ^ k ≤ 1099511627775 → k ≤ 5 → (dg n).length + k ≤ 6 := by
  intro n
  induction n using Nat.strongRecOn with
  | _ n ih =>
    intro k h hk
    by_cases hn : n < 128
    · rw [dg_low hn]; simp; omega
    · rw [dg_high hn, List.length_cons]
      have hs := split_mul n k
      have hk1 : k + 1 ≤ 5 := pow_big (m := n / 128) (by omega) (by omega)
      have := ih (n / 128) (by omega) (k + 1) (by omega) hk1
      omega
theorem rd_zero_err (most : Int) : ∀ (l : List UInt8) (k acc : Nat), (rd most l k acc).2.2 = 0 ∨ ((rd most l k acc).1 = 0 ∧ (rd most l k acc).2.1 = 0 ∧ ((rd most l k acc).2.2 = 2 ∨ (rd most l k acc).2.2 = 3 ∨ (rd most l k acc).2.2 = 4)) := by
  intro l
  induction l with
  | nil => intro k acc; unfold rd; split <;> simp
  | cons b t ih =>
    intro k acc
    unfold rd
    split
    · simp
    · split
      · exact ih _ _
      · split
        · simp
        · split <;> simp
/- what a number is written as -/
def clamp (n : Int) : Nat := (min (max n 0) 1099511627775).toNat
theorem clamp_le (n : Int) : clamp n ≤ 1099511627775 := by unfold clamp; omega
theorem clamp_of {n : Int} (h0 : 0 ≤ n) (h1 : n ≤ 1099511627775) : clamp n = n.toNat := by unfold clamp; omega
/- what a text is written as -/
def tx (t : List UInt8) : List UInt8 := dg (clamp t.length) ++ t
end Go.Proofs.Ytekeaoolodmdaaa
namespace Go.Proofs.Ytekeaoolodmdaaa
open Go.RowKit
/- n values as a function tells them -/
def arr (n : Nat) (f : Nat → Value) : Array Value := Array.ofFn (fun i : Fin n => f i)
theorem arr_size (n : Nat) (f : Nat → Value) : (arr n f).size = n := by simp [arr]
theorem arr_congr {n : Nat} {f g : Nat → Value} (h : ∀ i, i < n → f i = g i) : arr n f = arr n g := by
  unfold arr
  apply Array.ext
  · simp
  · intro i h1 h2
    simp at h1
    simp [h i h1]
theorem arr_get (n : Nat) (f : Nat → Value) (i : Nat) (h : i < n) : (arr n f)[i]? = some (f i) := by simp [arr, h]
/- a block of n cells that reads as a function -/
def Blk (w : World) (b : Nat) (E : TypeId) (n : Nat) (f : Nat → Value) : Prop :=
  w.heap[b]? = some (.cells (arr n f) E (0, 0))

theorem Blk.lt {w : World} {b E n f} (h : Blk w b E n f) : b < w.heap.size := by
  unfold Blk at h
  by_cases hlt : b < w.heap.size
  · exact hlt
  · have hn : w.heap[b]? = none := by simp; omega
    rw [hn] at h; cases h
theorem Blk.cell {w : World} {b E n f} (h : Blk w b E n f) (i : Nat) (hi : i < n) : w.cell? ⟨b, i, none⟩ = some (f i) := by
  rw [cell_of_row w b i _ E _ h]
  exact arr_get n f i hi
theorem Blk.frozen {w : World} {b E n f} (h : Blk w b E n f) (i : Nat) : w.frozen? ⟨b, i, none⟩ = false :=
  frozen_of_row w b i _ E h
theorem Blk.congr {w : World} {b E n f g} (h : Blk w b E n f) (hfg : ∀ i, i < n → f i = g i) : Blk w b E n g := by
  unfold Blk at *
  rw [h, arr_congr hfg]
theorem Blk.set {w : World} {b E n f} (h : Blk w b E n f) (i : Nat) (v : Value) : Blk (w.setCell ⟨b, i, none⟩ v) b E n (fun j => if j = i then v else f j) := by
  unfold Blk at *
  rw [heap_setCell_same w b i _ E v h]
  congr 2
  unfold arr
  apply Array.ext
  · simp
  · intro j h1 h2
    simp at h1
    rw [Array.getElem_setIfInBounds (by simpa using h1)]
    simp only [Array.getElem_ofFn]
    by_cases e : i = j
    · subst e; simp
    · rw [if_neg e, if_neg (fun e' => e e'.symm)]
theorem Blk.setOther {w : World} {b E n f} (h : Blk w b E n f) (a : Addr) (v : Value) (ha : a.block ≠ b) : Blk (w.setCell a v) b E n f := by
  unfold Blk at *
  rw [heap_setCell_other w a b v (fun e => ha e.symm)]; exact h
theorem Blk.alloc {w : World} {b E n f} (h : Blk w b E n f) (o : Obj) : Blk (w.alloc o) b E n f := by
  have hl := h.lt
  unfold Blk at *
  show (w.heap.push o)[b]? = _
  rw [Array.getElem?_push, if_neg (Nat.ne_of_lt hl)]; exact h
theorem Blk.drew {w : World} {b E n f} (h : Blk w b E n f) : Blk w.drew b E n f := h
theorem Blk.drewN {w : World} {b E n f} (h : Blk w b E n f) (q : Nat) : Blk (w.drewN q) b E n f := by
  unfold Blk at *; simpa using h
theorem Blk.below {w w' : World} {B b E n f} (h : Blk w b E n f) (hb : Below B w w') (hlt : b < B) : Blk w' b E n f := by
  unfold Blk at *
  rw [hb.block b hlt]; exact h
theorem Blk.new (w : World) (cs : Array Value) (E : TypeId) (n : Nat) (f : Nat → Value) (hc : cs = arr n f) : Blk (w.alloc (.cells cs E)) w.heap.size E n f := by
  unfold Blk
  rw [heap_alloc_new, hc]
theorem Blk.newAt {w : World} {b : Nat} {cs : Array Value} {E : TypeId} {n : Nat} (f : Nat → Value) (h : w.heap[b]? = some (.cells cs E (0,0))) (hc : cs = arr n f) : Blk w b E n f := by
  unfold Blk
  rw [h, hc]
theorem Blk.setRow {w : World} {b E n f} (h : Blk w b E n f) (g : Nat → Value) : Blk (w.setRow b (arr n g)) b E n g := by
  unfold Blk at *
  exact setRow_heap w b _ _ E _ h
theorem Blk.setRowOther {w : World} {b E n f} (h : Blk w b E n f) (k : Nat) (cs : Array Value) (hk : k ≠ b) : Blk (w.setRow k cs) b E n f := by
  unfold Blk at *
  rw [setRow_other w k b cs (fun e => hk e.symm)]; exact h
theorem Blk.range {w : World} {b E n f} (h : Blk w b E n f) (o m : Nat) (hm : o + m ≤ n) : w.rangeAt b o (arr m (fun i => f (o + i))).toList := by
  intro j v hv
  have hj : j < m := by
    have := (List.getElem?_eq_some_iff.1 hv).1
    simpa [arr_size] using this
  have e : (arr m (fun i => f (o + i))).toList[j]? = some (f (o + j)) := by
    rw [Array.getElem?_toList]; exact arr_get _ _ _ hj
  rw [e] at hv
  cases hv
  exact h.cell _ (by omega)
theorem Blk.there {w : World} {b E n f} (h : Blk w b E n f) (o m : Nat) (hm : o + m ≤ n) : w.there b o m := fun j hj =>
  ⟨by rw [h.cell _ (by omega)]; rfl, h.frozen _⟩

section
variable {P : Program}
theorem wpList_load_blk {ops : Array Oper} {rest : List Oper} {o : Oper} {a : Act} {w : World} {Q : Exit → Act → World → Prop} (hgd : o.guard = none) (ty : TypeId) (x : Operand) (ho : o.op = .load ty x)
    (g : Nat) (hx : a.eval x = .pointer (some ⟨g, 0, none⟩)) (E : TypeId) (n : Nat) (f : Nat → Value) (hB : Blk w g E n f) (d : TypeDesc)
    (hu : P.underlying ty = some d) (hd : (match d with | .struct _ | .array _ _ => true | _ => false) = true) (hi : (P.info? ty).map (·.size) = some n)
    (h : wpList P ops Q rest (a.put o.dst (.agg (arr n f))) w) : wpList P ops Q (o :: rest) a w :=
  wpList_load_row hgd ty x ho g hx E (arr n f) (0, 0) d hB hu hd (by rw [arr_size]; exact hi) h
theorem wpList_store_blk {ops : Array Oper} {rest : List Oper} {o : Oper} {a : Act} {w : World} {Q : Exit → Act → World → Prop} (hgd : o.guard = none) (ty : TypeId) (x y : Operand) (ho : o.op = .store ty x y)
    (g : Nat) (n : Nat) (f fo : Nat → Value) (hx : a.eval x = .pointer (some ⟨g, 0, none⟩)) (hy : a.eval y = .agg (arr n f)) (E : TypeId) (hB : Blk w g E n fo)
    (hi : (P.info? ty).map (·.size) = some n) (h1 : ∀ i, i < n → (f i).oneCell' = true)
    (h : wpList P ops Q rest (a.put o.dst undef) (w.setRow g (arr n f))) : wpList P ops Q (o :: rest) a w :=
  wpList_store_row hgd ty x y ho g (arr n f) hx hy E (arr n fo) hB (by rw [arr_size]; exact hi) (by rw [arr_size, arr_size])
    (Array.all_eq_true_iff_forall_mem.2 (fun v hv => by
      unfold arr at hv
      rw [Array.mem_ofFn] at hv
      obtain ⟨i, rfl⟩ := hv
      exact h1 i i.isLt)) h
theorem results_blk {fn : Func} {p : Tmp} {ty : TypeId} (h : fn.results = #[.cell p ty]) (tmps : Array Value) (w : World) (g : Nat) (E : TypeId) (n : Nat) (f : Nat → Value) (hB : Blk w g E n f) (d : TypeDesc)
    (hp : tmps.getD p undef = .pointer (some ⟨g, 0, none⟩))
    (hu : P.underlying ty = some d) (hd : (match d with | .struct _ | .array _ _ => true | _ => false) = true) (hi : (P.info? ty).map (·.size) = some n) :
    (results fn tmps).run P w = .ok (.agg (arr n f)) w :=
  results_cell_row h tmps w g E (arr n f) (0, 0) d hp hB hu hd (by rw [arr_size]; exact hi)
end
end Go.Proofs.Ytekeaoolodmdaaa
