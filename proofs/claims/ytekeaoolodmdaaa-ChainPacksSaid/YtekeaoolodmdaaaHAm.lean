import Derived.Test.YtekeaoolodmdaaaEG
import Derived.Test.YtekeaoolodmdaaaE6
/- Lists of parts, plainly: the way from a part to a plain one, its text; all texts; parts that are made of texts. -/
namespace Go.Proofs.Ytekeaoolodmdaaa
set_option maxRecDepth 100000
open Go.RowKit
/- a part -/
structure Pt where
  d : Bool
  b : Int
  t : List UInt8
def zp : Pt := ⟨false, 0, []⟩
/- may a part's base be, at its place? -/
def fm (p : Pt) (at_ : Int) : Bool := if p.d then decide (0 ≤ p.b) && decide (p.b < at_) else decide (p.b = 0)
/- the way from a place on, of at most k places; the error -/
def al (l : List Pt) : Nat → Nat → List Nat × Int
  | 0, at_ => if fm (l.getD at_ zp) at_ then ([], 11) else ([], 2)
  | k + 1, at_ => if fm (l.getD at_ zp) at_ then (if (l.getD at_ zp).d then (if (al l k (l.getD at_ zp).b.toNat).2 = 0 then (at_ :: (al l k (l.getD at_ zp).b.toNat).1, 0) else ([], (al l k (l.getD at_ zp).b.toNat).2)) else ([at_], 0)) else ([], 2)
/- what is known behind some places -/
def pre (way : List Nat) (r : List Nat × Int) : List Nat × Int := if r.2 = 0 then (way ++ r.1, 0) else ([], r.2)
theorem pre_nil {r : List Nat × Int} (h : r.2 ≠ 0 → r.1 = []) : pre [] r = r := by
  obtain ⟨a, b⟩ := r
  unfold pre
  by_cases c : b = 0
  · subst c; rfl
  · have := h c
    simp only at this
    subst this
    rw [if_neg c]
theorem al_err (l : List Pt) (k at_ : Nat) : (al l k at_).2 ≠ 0 → (al l k at_).1 = [] := by
  cases k with
  | zero => unfold al; split <;> simp
  | succ k =>
    unfold al
    split
    · split
      · split
        · simp
        · simp
      · simp
    · simp
theorem al_wrong {l : List Pt} {k at_ : Nat} (h : fm (l.getD at_ zp) at_ = false) : al l k at_ = ([], 2) := by
  cases k <;> (unfold al; rw [h]; rfl)
theorem al_deep {l : List Pt} {at_ : Nat} (h : fm (l.getD at_ zp) at_ = true) : al l 0 at_ = ([], 11) := by unfold al; rw [if_pos h]
theorem al_plain {l : List Pt} {k at_ : Nat} (h : fm (l.getD at_ zp) at_ = true) (hd : (l.getD at_ zp).d = false) : al l (k + 1) at_ = ([at_], 0) := by
  unfold al; rw [if_pos h, if_neg (by rw [hd]; decide)]
theorem al_delta {l : List Pt} {k at_ : Nat} (h : fm (l.getD at_ zp) at_ = true) (hd : (l.getD at_ zp).d = true) (way : List Nat) : pre way (al l (k + 1) at_) = pre (way ++ [at_]) (al l k (l.getD at_ zp).b.toNat) := by
  have e : al l (k + 1) at_ = if (al l k (l.getD at_ zp).b.toNat).2 = 0 then (at_ :: (al l k (l.getD at_ zp).b.toNat).1, 0) else ([], (al l k (l.getD at_ zp).b.toNat).2) := by
    conv => lhs; unfold al
    rw [if_pos h, if_pos hd]
  rw [e]
  unfold pre
  generalize al l k (l.getD at_ zp).b.toNat = r
  by_cases c : r.2 = 0
  · rw [if_pos c, if_pos c, if_pos rfl, List.append_assoc]; rfl
  · rw [if_neg c, if_neg c, if_neg c]
theorem fm_delta {p : Pt} {at_ : Nat} (h : fm p at_ = true) (hd : p.d = true) : 0 ≤ p.b ∧ p.b < at_ ∧ p.b.toNat < at_ := by
  unfold fm at h
  rw [if_pos hd] at h
  simp only [Bool.and_eq_true, decide_eq_true_eq] at h
  omega
theorem fm_plain {p : Pt} {at_ : Nat} (h : fm p at_ = true) (hd : p.d = false) : p.b = 0 := by
  unfold fm at h
  rw [hd] at h
  simpa using h
/- the way of a part: its places, the error -/
def wayR (l : List Pt) (at_ : Int) : List Nat × Int := if 200 < l.length ∨ at_ < 0 ∨ (l.length : Int) ≤ at_ then ([], 1) else al l 5 at_.toNat
theorem wayR_err {l : List Pt} {at_ : Int} (h : (wayR l at_).2 ≠ 0) : (wayR l at_).1 = [] := by
  unfold wayR at *
  split
  · rfl
  · rename_i c; rw [if_neg c] at h; exact al_err l _ _ h
/- what is told of a part whose base has a text -/
def tlq (p : Pt) (B : List UInt8) : List UInt8 × Int := if p.d then aRes B p.t else if 4099 < p.t.length then ([], 19) else (p.t, 0)
/- a part's text -/
def txq (l : List Pt) (at_ : Nat) : List UInt8 × Int :=
  if (l.getD at_ zp).d then
    if _h : (l.getD at_ zp).b.toNat < at_ then
      if (txq l (l.getD at_ zp).b.toNat).2 = 0 then tlq (l.getD at_ zp) (txq l (l.getD at_ zp).b.toNat).1 else ([], (txq l (l.getD at_ zp).b.toNat).2)
    else ([], 2)
  else tlq (l.getD at_ zp) []
termination_by at_
decreasing_by all_goals omega
theorem txq_plain {l : List Pt} {at_ : Nat} (hd : (l.getD at_ zp).d = false) (B : List UInt8) : txq l at_ = tlq (l.getD at_ zp) B := by
  rw [txq, if_neg (by rw [hd]; decide)]
  unfold tlq
  rw [hd]
  rfl
theorem txq_delta {l : List Pt} {at_ : Nat} (hd : (l.getD at_ zp).d = true) (h : (l.getD at_ zp).b.toNat < at_) : txq l at_ = if (txq l (l.getD at_ zp).b.toNat).2 = 0 then tlq (l.getD at_ zp) (txq l (l.getD at_ zp).b.toNat).1 else ([], (txq l (l.getD at_ zp).b.toNat).2) := by
  rw [txq, if_pos hd, dif_pos h]
theorem tlq_err (p : Pt) (B : List UInt8) : (tlq p B).2 ≠ 0 → (tlq p B).1 = [] := by
  unfold tlq aRes
  split
  · cases dRead p.t with
    | none => intro _; rfl
    | some x =>
      dsimp only
      split
      · intro h; exact absurd rfl h
      · intro _; rfl
  · split
    · intro _; rfl
    · intro h; exact absurd rfl h
theorem txq_err (l : List Pt) (at_ : Nat) : (txq l at_).2 ≠ 0 → (txq l at_).1 = [] := by
  rw [txq]
  split
  · split
    · split
      · exact tlq_err _ _
      · intro _; rfl
    · intro _; rfl
  · exact tlq_err _ _
/- a part's text as it is told; the error -/
def textR (l : List Pt) (at_ : Int) : List UInt8 × Int := if (wayR l at_).2 = 0 then txq l at_.toNat else ([], (wayR l at_).2)
theorem textR_err (l : List Pt) (at_ : Int) : (textR l at_).2 ≠ 0 → (textR l at_).1 = [] := by
  unfold textR
  split
  · exact txq_err _ _
  · intro _; rfl
/- a way's places: each one's base is the next one, the last one is plain -/
inductive Way (l : List Pt) : List Nat → Prop
  | one {at_ : Nat} : at_ < l.length → fm (l.getD at_ zp) at_ = true → (l.getD at_ zp).d = false → Way l [at_]
  | more {at_ : Nat} {p : List Nat} : at_ < l.length → fm (l.getD at_ zp) at_ = true → (l.getD at_ zp).d = true → Way l ((l.getD at_ zp).b.toNat :: p) → Way l (at_ :: (l.getD at_ zp).b.toNat :: p)
theorem al_way {l : List Pt} : ∀ (k at_ : Nat), at_ < l.length → (al l k at_).2 = 0 → Way l (al l k at_).1 ∧ (al l k at_).1.head? = some at_ ∧ (al l k at_).1.length ≤ k := by
  intro k
  induction k with
  | zero => intro at_ _ h; unfold al at h; split at h <;> simp at h
  | succ k ih =>
    intro at_ hat h
    by_cases hf : fm (l.getD at_ zp) at_ = true
    · by_cases hd : (l.getD at_ zp).d = true
      · obtain ⟨h0, h1, h2⟩ := fm_delta hf hd
        have e := al_delta (k := k) hf hd []
        rw [pre_nil (al_err l _ _)] at e
        rw [e] at h ⊢
        unfold pre at h ⊢
        by_cases c : (al l k (l.getD at_ zp).b.toNat).2 = 0
        · rw [if_pos c]
          obtain ⟨i1, i2, i3⟩ := ih _ (by omega) c
          cases hp : (al l k (l.getD at_ zp).b.toNat).1 with
          | nil => rw [hp] at i2; simp at i2
          | cons q p =>
            rw [hp] at i1 i2 i3
            simp only [List.head?_cons, Option.some.injEq] at i2
            subst i2
            simp only [List.length_cons] at i3
            exact ⟨.more hat hf hd i1, rfl, by simp; omega⟩
        · rw [if_neg c] at h; exact absurd h c
      · have hd' : (l.getD at_ zp).d = false := by simpa using hd
        rw [al_plain hf hd'] at h ⊢
        exact ⟨.one hat hf hd', rfl, by simp⟩
    · rw [al_wrong (by simpa using hf)] at h
      simp at h
theorem wayR_way {l : List Pt} {at_ : Int} (h : (wayR l at_).2 = 0) : 0 ≤ at_ ∧ at_ < l.length ∧ l.length ≤ 200 ∧ Way l (wayR l at_).1 ∧ (wayR l at_).1.head? = some at_.toNat ∧ (wayR l at_).1.length ≤ 5 := by
  unfold wayR at *
  split at h
  · simp at h
  · rename_i c
    rw [if_neg c]
    obtain ⟨h1, h2, h3⟩ := al_way 5 at_.toNat (by omega) h
    exact ⟨by omega, by omega, by omega, h1, h2, h3⟩
/- the answers of a function, one behind the other: all, or the first error -/
def allR (f : Nat → List UInt8 × Int) : Nat → List (List UInt8) × Int
  | 0 => ([], 0)
  | n + 1 => if (allR f n).2 = 0 then (if (f n).2 = 0 then ((allR f n).1 ++ [(f n).1], 0) else ([], (f n).2)) else ([], (allR f n).2)
theorem allR_ok {f : Nat → List UInt8 × Int} {n : Nat} (h : (allR f n).2 = 0) : (allR f n).1 = (List.range n).map (fun i => (f i).1) ∧ ∀ i, i < n → (f i).2 = 0 := by
  induction n with
  | zero => exact ⟨rfl, fun i hi => by omega⟩
  | succ n ih =>
    unfold allR at h ⊢
    by_cases c : (allR f n).2 = 0
    · rw [if_pos c] at h ⊢
      by_cases c2 : (f n).2 = 0
      · rw [if_pos c2]
        obtain ⟨i1, i2⟩ := ih c
        refine ⟨?_, fun i hi => ?_⟩
        · dsimp only
          rw [i1, List.range_succ, List.map_append]
          rfl
        · by_cases e : i = n
          · subst e; exact c2
          · exact i2 i (by omega)
      · rw [if_neg c2] at h; exact absurd h c2
    · rw [if_neg c] at h; exact absurd h c
theorem allR_all {f : Nat → List UInt8 × Int} {n : Nat} (h : ∀ i, i < n → (f i).2 = 0) : (allR f n) = ((List.range n).map (fun i => (f i).1), 0) := by
  have key : (allR f n).2 = 0 := by
    induction n with
    | zero => rfl
    | succ n ih =>
      unfold allR
      rw [if_pos (ih fun i hi => h i (by omega)), if_pos (h n (by omega))]
  have := (allR_ok key).1
  rw [← this, ← key]
theorem allR_err {f : Nat → List UInt8 × Int} {n : Nat} (h : (allR f n).2 ≠ 0) : (allR f n).1 = [] := by
  cases n with
  | zero => exact absurd rfl h
  | succ n =>
    unfold allR at h ⊢
    split
    · rename_i c
      rw [if_pos c] at h
      split
      · rename_i c2; rw [if_pos c2] at h; exact absurd rfl h
      · rfl
    · rfl
theorem allR_more {f : Nat → List UInt8 × Int} {n : Nat} (h : (allR f n).2 ≠ 0) (k : Nat) : allR f (n + k) = ([], (allR f n).2) := by
  induction k with
  | zero => rw [Nat.add_zero, ← allR_err h]
  | succ k ih =>
    rw [← Nat.add_assoc, allR, ih]
    rw [if_neg h]
theorem allR_first {f : Nat → List UInt8 × Int} {n i : Nat} (hi : i < n) (h0 : (allR f i).2 = 0) (h : (f i).2 ≠ 0) : allR f n = ([], (f i).2) := by
  have e : allR f (i + 1) = ([], (f i).2) := by rw [allR, if_pos h0, if_neg h]
  have := allR_more (f := f) (n := i + 1) (by rw [e]; exact h) (n - (i + 1))
  rw [show i + 1 + (n - (i + 1)) = n by omega, e] at this
  exact this
theorem allR_congr {f g : Nat → List UInt8 × Int} {n : Nat} (h : ∀ i, i < n → f i = g i) : allR f n = allR g n := by
  induction n with
  | zero => rfl
  | succ n ih => rw [allR, allR, ih fun i hi => h i (by omega), h n (by omega)]
/- all parts' texts -/
def allT (l : List Pt) : List (List UInt8) × Int := allR (fun i => textR l (i : Int)) l.length
end Go.Proofs.Ytekeaoolodmdaaa
/- Rows of parts, of ints, of texts. -/
namespace Go.Proofs.Ytekeaoolodmdaaa
set_option maxRecDepth 100000
open Go.RowKit
section
variable {α : Type}
def cf (m : Nat) (g : α → Nat → Value) (d : α) (l : List α) (i : Nat) : Value := g (l.getD (i / m) d) (i % m)
theorem cf_at {m : Nat} (g : α → Nat → Value) (d : α) (l : List α) (k j : Nat) (hj : j < m) : cf m g d l (k * m + j) = g (l.getD k d) j := by
  unfold cf
  rw [Nat.mul_comm, Nat.mul_add_div (by omega), Nat.div_eq_of_lt hj, Nat.mul_add_mod, Nat.mod_eq_of_lt hj, Nat.add_zero]
theorem cf_snoc {m : Nat} (g : α → Nat → Value) (d : α) (l : List α) (x : α) (i : Nat) (hm : 0 < m) (h : i < l.length * m) : cf m g d (l ++ [x]) i = cf m g d l i := by
  have : i / m < l.length := (Nat.div_lt_iff_lt_mul hm).2 h
  unfold cf
  rw [List.getD_eq_getElem?_getD, List.getD_eq_getElem?_getD, List.getElem?_append_left this]
theorem cf_last {m : Nat} (g : α → Nat → Value) (d : α) (l : List α) (x : α) : arr m (g x) = arr m (fun j => cf m g d (l ++ [x]) (l.length * m + j)) := by
  apply arr_congr
  intro j hj
  have e : (l ++ [x]).getD l.length d = x := by rw [List.getD_eq_getElem?_getD, List.getElem?_concat_length]; rfl
  rw [cf_at _ _ _ _ _ hj, e]
def RowG (m : Nat) (g : α → Nat → Value) (d : α) (w : World) (v : Value) (l : List α) : Prop := Row w v m (cf m g d l) l.length
def OwnG (e m : Nat) (g : α → Nat → Value) (d : α) (w : World) (B : Nat) (v : Value) (l : List α) : Prop := w.ownsRow B e m v l.length (arr (l.length * m) (cf m g d l)).toList
theorem OwnG.row {e m : Nat} {g : α → Nat → Value} {d : α} {w : World} {B : Nat} {v : Value} {l : List α} (h : OwnG e m g d w B v l) : RowG m g d w v l := owns_row h
theorem OwnG.nil (e m : Nat) (g : α → Nat → Value) (d : α) (w : World) (B : Nat) : OwnG e m g d w B (.slice none 0 0) [] := by
  unfold OwnG
  rw [List.length_nil, Nat.zero_mul]
  exact World.ownsRow_nil _ _ _ _
theorem OwnG.all {e m : Nat} {g : α → Nat → Value} {d : α} {w w' : World} {B : Nat} {v : Value} {l : List α} (h : OwnG e m g d w B v l) (hb : Below w.heap.size w w') : OwnG e m g d w' B v l := owns_all h hb
theorem OwnG.keep {K : Nat → Prop} {e m : Nat} {g : α → Nat → Value} {d : α} {w w' : World} {B : Nat} {v : Value} {l : List α} (h : OwnG e m g d w B v l) (hk : Keep K w w') (hK : ∀ g, B ≤ g → K g) : OwnG e m g d w' B v l := owns_keep h hk fun g hg => hK g (own_lt h hg).1
theorem OwnG.mono {e m : Nat} {g : α → Nat → Value} {d : α} {w : World} {B B' : Nat} {v : Value} {l : List α} (h : OwnG e m g d w B v l) (hB : B' ≤ B) : OwnG e m g d w B' v l :=
  ⟨h.1, h.2.imp id fun ⟨g, cap, cur, a, c, d⟩ => ⟨g, cap, cur, a, Nat.le_trans hB c, d⟩⟩
theorem RowG.below {m : Nat} {g : α → Nat → Value} {d : α} {w w' : World} {v : Value} {l : List α} (h : RowG m g d w v l) (hb : Below w.heap.size w w') : RowG m g d w' v l := Row.below h hb
theorem RowG.cells {m : Nat} {g : α → Nat → Value} {d : α} {w : World} {v : Value} {l : List α} (h : RowG m g d w v l) : ∃ ad cap, v = .slice ad l.length cap ∧ ∀ k, k < l.length → l.length ≤ cap ∧ ∃ b o, ad = some ⟨b, o, none⟩ ∧ b < w.heap.size ∧ ∀ j, j < m → w.cell? ⟨b, o + k * m + j, none⟩ = some (g (l.getD k d) j) := by
  obtain ⟨ad, cap, rfl, ha⟩ := row_addr h
  refine ⟨ad, cap, rfl, fun k hk => ?_⟩
  obtain ⟨b, o, rfl, hb, hA⟩ := ha (by omega)
  refine ⟨row_cap h (by omega), b, o, rfl, hb, fun j hj => ?_⟩
  have h1 : k * m + j < l.length * m := by
    have := Nat.mul_le_mul_right m (show k + 1 ≤ l.length by omega)
    rw [Nat.succ_mul] at this
    omega
  rw [Nat.add_assoc, hA _ h1, cf_at _ _ _ _ _ hj]
theorem RowG.len {m : Nat} {g : α → Nat → Value} {d : α} {w : World} {v : Value} {l : List α} (h : RowG m g d w v l) : ∃ ad cap, v = .slice ad l.length cap := by
  obtain ⟨ad, cap, e, _⟩ := h.cells
  exact ⟨ad, cap, e⟩
theorem RowG.nil (m : Nat) (g : α → Nat → Value) (d : α) (w : World) : RowG m g d w (.slice none 0 0) [] := Row.nil _ _ _
/- the first k -/
theorem RowG.take {m : Nat} {g : α → Nat → Value} {d : α} {w : World} {ad : Option Addr} {n cap : Nat} {l : List α} (h : RowG m g d w (.slice ad n cap) l) {k : Nat} (hk : k ≤ l.length) : RowG m g d w (.slice ad k cap) (l.take k) := by
  have hl : (l.take k).length = k := by rw [List.length_take]; omega
  unfold RowG
  rw [hl]
  rcases h with ⟨ad', cap', e, h0⟩ | ⟨b, o, cap', e, h0, h1, h2, h3⟩
  · cases e
    exact Or.inl ⟨_, _, by rw [show k = 0 by omega], by omega⟩
  · cases e
    by_cases c : k = 0
    · subst c; exact Or.inl ⟨_, _, rfl, rfl⟩
    · refine Or.inr ⟨b, o, cap, rfl, by omega, by omega, h2, fun i hi => ?_⟩
      rw [h3 i (Nat.lt_of_lt_of_le hi (Nat.mul_le_mul_right m hk))]
      have : i / m < k := by
        by_cases hm : m = 0
        · subst hm; simp at hi
        · exact (Nat.div_lt_iff_lt_mul (by omega)).2 hi
      unfold cf
      rw [List.getD_eq_getElem?_getD, List.getD_eq_getElem?_getD, List.getElem?_take, if_pos this]
theorem app_g {t e m bytes : Nat} {z : Value} {g : α → Nat → Value} {d : α} (ht : Try.prog.underlying t = some (.slice e)) (hi : (Try.prog.info? e).map (fun i => (i.zero, i.size, i.bytes)) = some (some z, m, bytes)) (hzs : z.cells.size = m) (hm : 0 < m) (hby : bytes ≤ 64) (h1 : ∀ x j, (g x j).oneCell' = true)
    {B : Nat} {w : World} {v : Value} {l : List α} (x : α) (A : Array Value) (hA : A = arr m (g x)) (h : OwnG e m g d w B v l) (hB : B ≤ w.heap.size) (hn : l.length + 1 ≤ 100000) :
    ∃ b cap w', (Builtin.append_ #[t, t] t #[v, .slice (some ⟨w.heap.size, 0, none⟩) 1 1]).run Try.prog (w.alloc (.cells A e)) = .ok (.slice (some ⟨b, 0, none⟩) (l.length + 1) cap) w' ∧
      OwnG e m g d w' B (.slice (some ⟨b, 0, none⟩) (l.length + 1) cap) (l ++ [x]) ∧ Below B w w' := by
  have h2 : w.ownsRow B e m v l.length (arr (l.length * m) (cf m g d (l ++ [x]))).toList := by
    have e : arr (l.length * m) (cf m g d l) = arr (l.length * m) (cf m g d (l ++ [x])) := arr_congr fun i hi => (cf_snoc g d l x i hm hi).symm
    rw [← e]
    exact h
  obtain ⟨b, cap, w', hr, ho, hk, hat⟩ := app_own ht hi hzs hm hby A (hA.trans (cf_last g d l x)) (fun j => h1 _ _) h2 hB hn
  refine ⟨b, cap, w', hr, ?_, hk.os, hk.tape, hk.output, hk.size, fun k hkB => hk.block k (fun e => ?_) (by omega)⟩
  · unfold OwnG
    rw [List.length_append, List.length_singleton]
    exact ho
  · have := own_lt h e
    omega
end
/- parts -/
def gP (x : Pt) : Nat → Value
  | 0 => .bool x.d
  | 1 => .int .i64 x.b
  | _ => .string (bs x.t)
theorem gP_one (x : Pt) (j : Nat) : (gP x j).oneCell' = true := by unfold gP; split <;> rfl
def ptv (x : Pt) : Value := .agg #[.bool x.d, .int .i64 x.b, .string (bs x.t)]
def RowP (w : World) (v : Value) (l : List Pt) : Prop := RowG 3 gP zp w v l
def OwnP (w : World) (B : Nat) (v : Value) (l : List Pt) : Prop := OwnG 50 3 gP zp w B v l
theorem tPt : Try.prog.underlying 22 = some (.slice 50) := by kernel_rfl
theorem iPt : (Try.prog.info? 50).map (fun i => (i.zero, i.size, i.bytes)) = some (some (.agg #[.bool false, .int .i64 0, .string ⟨#[]⟩]), 3, 32) := by kernel_rfl
theorem RowP.cells {w : World} {v : Value} {l : List Pt} (h : RowP w v l) : ∃ ad cap, v = .slice ad l.length cap ∧ ∀ k, k < l.length → ∃ b o, ad = some ⟨b, o, none⟩ ∧ b < w.heap.size ∧ w.cell? ⟨b, o + k * 3, none⟩ = some (.bool (l.getD k zp).d) ∧ w.cell? ⟨b, o + k * 3 + 1, none⟩ = some (.int .i64 (l.getD k zp).b) ∧ w.cell? ⟨b, o + k * 3 + 2, none⟩ = some (.string (bs (l.getD k zp).t)) := by
  obtain ⟨ad, cap, e, hc⟩ := RowG.cells h
  refine ⟨ad, cap, e, fun k hk => ?_⟩
  obtain ⟨_, b, o, ha, hb, hj⟩ := hc k hk
  exact ⟨b, o, ha, hb, hj 0 (by decide), hj 1 (by decide), hj 2 (by decide)⟩
theorem app_p {B : Nat} {w : World} {v : Value} {l : List Pt} (x : Pt) (h : OwnP w B v l) (hB : B ≤ w.heap.size) (hn : l.length + 1 ≤ 100000) :
    ∃ b cap w', (Builtin.append_ #[22, 22] 22 #[v, .slice (some ⟨w.heap.size, 0, none⟩) 1 1]).run Try.prog (w.alloc (.cells #[.bool x.d, .int .i64 x.b, .string (bs x.t)] 50)) = .ok (.slice (some ⟨b, 0, none⟩) (l.length + 1) cap) w' ∧
      OwnP w' B (.slice (some ⟨b, 0, none⟩) (l.length + 1) cap) (l ++ [x]) ∧ Below B w w' := app_g tPt iPt rfl (by decide) (by decide) gP_one x _ rfl h hB hn
/- places -/
def gN (x : Nat) (_ : Nat) : Value := .int .i64 (x : Int)
def RowN (w : World) (v : Value) (l : List Nat) : Prop := RowG 1 gN 0 w v l
def OwnN (w : World) (B : Nat) (v : Value) (l : List Nat) : Prop := OwnG 3 1 gN 0 w B v l
theorem tIs : Try.prog.underlying 30 = some (.slice 3) := by kernel_rfl
theorem iIs : (Try.prog.info? 3).map (fun i => (i.zero, i.size, i.bytes)) = some (some (.int .i64 0), 1, 8) := by kernel_rfl
theorem app_n {B : Nat} {w : World} {v : Value} {l : List Nat} (x : Nat) (h : OwnN w B v l) (hB : B ≤ w.heap.size) (hn : l.length + 1 ≤ 100000) :
    ∃ b cap w', (Builtin.append_ #[30, 30] 30 #[v, .slice (some ⟨w.heap.size, 0, none⟩) 1 1]).run Try.prog (w.alloc (.cells #[.int .i64 (x : Int)] 3)) = .ok (.slice (some ⟨b, 0, none⟩) (l.length + 1) cap) w' ∧
      OwnN w' B (.slice (some ⟨b, 0, none⟩) (l.length + 1) cap) (l ++ [x]) ∧ Below B w w' := app_g tIs iIs rfl (by decide) (by decide) (fun _ _ => rfl) x _ rfl h hB hn
theorem RowN.cells {w : World} {v : Value} {l : List Nat} (h : RowN w v l) : ∃ ad cap, v = .slice ad l.length cap ∧ ∀ k, k < l.length → ∃ b o, ad = some ⟨b, o, none⟩ ∧ b < w.heap.size ∧ w.cell? ⟨b, o + k, none⟩ = some (.int .i64 (l.getD k 0 : Int)) := by
  obtain ⟨ad, cap, e, hc⟩ := RowG.cells h
  refine ⟨ad, cap, e, fun k hk => ?_⟩
  obtain ⟨_, b, o, ha, hb, hj⟩ := hc k hk
  have := hj 0 (by decide)
  rw [Nat.mul_one] at this
  exact ⟨b, o, ha, hb, this⟩
/- ints -/
def gI (x : Int) (_ : Nat) : Value := .int .i64 x
def RowI (w : World) (v : Value) (l : List Int) : Prop := RowG 1 gI 0 w v l
theorem RowI.cells {w : World} {v : Value} {l : List Int} (h : RowI w v l) : ∃ ad cap, v = .slice ad l.length cap ∧ ∀ k, k < l.length → ∃ b o, ad = some ⟨b, o, none⟩ ∧ b < w.heap.size ∧ w.cell? ⟨b, o + k, none⟩ = some (.int .i64 (l.getD k 0)) := by
  obtain ⟨ad, cap, e, hc⟩ := RowG.cells h
  refine ⟨ad, cap, e, fun k hk => ?_⟩
  obtain ⟨_, b, o, ha, hb, hj⟩ := hc k hk
  have := hj 0 (by decide)
  rw [Nat.mul_one] at this
  exact ⟨b, o, ha, hb, this⟩
/- texts -/
def gS (x : List UInt8) (_ : Nat) : Value := .string (bs x)
def RowS (w : World) (v : Value) (l : List (List UInt8)) : Prop := RowG 1 gS [] w v l
def OwnS (w : World) (B : Nat) (v : Value) (l : List (List UInt8)) : Prop := OwnG 9 1 gS [] w B v l
theorem tSs : Try.prog.underlying 35 = some (.slice 9) := by kernel_rfl
theorem iSs : (Try.prog.info? 9).map (fun i => (i.zero, i.size, i.bytes)) = some (some (.string ⟨#[]⟩), 1, 16) := by kernel_rfl
theorem app_s {B : Nat} {w : World} {v : Value} {l : List (List UInt8)} (x : List UInt8) (h : OwnS w B v l) (hB : B ≤ w.heap.size) (hn : l.length + 1 ≤ 100000) :
    ∃ b cap w', (Builtin.append_ #[35, 35] 35 #[v, .slice (some ⟨w.heap.size, 0, none⟩) 1 1]).run Try.prog (w.alloc (.cells #[.string (bs x)] 9)) = .ok (.slice (some ⟨b, 0, none⟩) (l.length + 1) cap) w' ∧
      OwnS w' B (.slice (some ⟨b, 0, none⟩) (l.length + 1) cap) (l ++ [x]) ∧ Below B w w' := app_g tSs iSs rfl (by decide) (by decide) (fun _ _ => rfl) x _ rfl h hB hn
theorem RowS.cells {w : World} {v : Value} {l : List (List UInt8)} (h : RowS w v l) : ∃ ad cap, v = .slice ad l.length cap ∧ ∀ k, k < l.length → ∃ b o, ad = some ⟨b, o, none⟩ ∧ b < w.heap.size ∧ w.cell? ⟨b, o + k, none⟩ = some (.string (bs (l.getD k []))) := by
  obtain ⟨ad, cap, e, hc⟩ := RowG.cells h
  refine ⟨ad, cap, e, fun k hk => ?_⟩
  obtain ⟨_, b, o, ha, hb, hj⟩ := hc k hk
  have := hj 0 (by decide)
  rw [Nat.mul_one] at this
  exact ⟨b, o, ha, hb, this⟩
end Go.Proofs.Ytekeaoolodmdaaa
