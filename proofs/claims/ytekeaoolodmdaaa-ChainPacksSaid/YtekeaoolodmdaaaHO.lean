import Derived.Test.YtekeaoolodmdaaaHWm
/- Parts that are made of texts, plainly. -/
namespace Go.Proofs.Ytekeaoolodmdaaa
set_option maxRecDepth 100000
open Go.RowKit
/- the part that tells s by the part at b, if it is to stand as a delta behind l -/
def dBy (T : List (List UInt8)) (b : Int) (s : List UInt8) : List UInt8 := dBytes (T.getD b.toNat []).length (made (T.getD b.toNat []) s)
def dpart (l : List Pt) (T : List (List UInt8)) (b : Int) (s : List UInt8) : Option Pt :=
  if (depthR l b).2 = 0 ∧ (depthR l b).1 < 4 ∧ (dBy T b s).length < s.length then some ⟨true, b, dBy T b s⟩ else none
def packP (l : List Pt) (T : List (List UInt8)) (b : Int) (s : List UInt8) : Pt := (dpart l T b s).getD ⟨false, 0, s⟩
def packL (T : List (List UInt8)) (Bs : List Int) : Nat → List Pt
  | 0 => []
  | i + 1 => packL T Bs i ++ [packP (packL T Bs i) T (Bs.getD i 0) (T.getD i [])]
theorem packL_len (T : List (List UInt8)) (Bs : List Int) (i : Nat) : (packL T Bs i).length = i := by
  induction i with
  | zero => rfl
  | succ i ih => rw [packL, List.length_append, ih]; rfl
/- a way of a few places is found with fewer, too -/
theorem al_less {l : List Pt} : ∀ (k at_ j : Nat), (al l k at_).2 = 0 → (al l k at_).1.length ≤ j → al l j at_ = al l k at_ := by
  intro k
  induction k with
  | zero => intro at_ j h; unfold al at h; split at h <;> simp at h
  | succ k ih =>
    intro at_ j h hj
    by_cases hf : fm (l.getD at_ zp) at_ = true
    · by_cases hd : (l.getD at_ zp).d = true
      · have e2 := al_delta (k := k) hf hd []
        rw [pre_nil (al_err l _ _)] at e2
        unfold pre at e2
        by_cases c : (al l k (l.getD at_ zp).b.toNat).2 = 0
        · rw [if_pos c] at e2
          rw [e2] at hj ⊢
          simp only [List.nil_append, List.length_append, List.length_singleton] at hj
          cases j with
          | zero => omega
          | succ j =>
            have e3 := al_delta (k := j) hf hd []
            rw [pre_nil (al_err l _ _)] at e3
            rw [e3, ih _ j c (by omega)]
            unfold pre
            rw [if_pos c]
        · rw [if_neg c] at e2; rw [e2] at h; exact absurd h c
      · have hd' : (l.getD at_ zp).d = false := by simpa using hd
        rw [al_plain hf hd'] at hj ⊢
        cases j with
        | zero => simp at hj
        | succ j => rw [al_plain hf hd']
    · rw [al_wrong (by simpa using hf)] at h; simp at h
theorem Way.len {l : List Pt} {p : List Nat} (h : Way l p) : p.length ≤ p.getD 0 0 + 1 := by
  induction h with
  | one h1 h2 h3 => simp
  | more h1 h2 h3 h4 ih =>
    rename_i at_ p
    have := fm_delta h2 h3
    simp only [List.getD_cons_zero, List.length_cons] at ih ⊢
    omega
/- the bytes of a delta that is made -/
theorem dBy_back {T : List (List UInt8)} {b : Int} {s : List UInt8} (hB : (T.getD b.toNat []).length ≤ 4099) (hs : s.length ≤ 4099) : aRes (T.getD b.toNat []) (dBy T b s) = (s, 0) := by
  obtain ⟨h1, h2, h3⟩ := made_good hB hs
  unfold dBy
  rw [aRes_back hB h1 (by omega), h2]
/- what holds of the parts that are made of the first i texts -/
structure PI (T : List (List UInt8)) (l : List Pt) : Prop where
  ok : ∀ k, k < l.length → (al l 5 k).2 = 0
  text : ∀ k, k < l.length → txq l k = (T.getD k [], 0)
theorem take_self_append (l : List Pt) (x : Pt) : (l ++ [x]).take l.length = l := by simp
theorem PI.step {T : List (List UInt8)} {l : List Pt} (h : PI T l) (hl : l.length < T.length) (hT : ∀ x ∈ T, x.length ≤ 4099) (h2 : T.length ≤ 200) (b : Int) : PI T (l ++ [packP l T b (T.getD l.length [])]) := by
  obtain ⟨s, hs⟩ : ∃ s, s = T.getD l.length [] := ⟨_, rfl⟩
  have hs4 : s.length ≤ 4099 := by rw [hs]; exact hT _ (getD_mem T [] _ hl)
  rw [← hs]
  have hold1 : ∀ f k, k < l.length → al (l ++ [packP l T b s]) f k = al l f k := fun f k hk => by
    have := al_take (l ++ [packP l T b s]) l.length f k hk
    rw [take_self_append] at this
    exact this.symm
  have hold2 : ∀ k, k < l.length → txq (l ++ [packP l T b s]) k = txq l k := fun k hk => by
    have := txq_take (l ++ [packP l T b s]) l.length k hk
    rw [take_self_append] at this
    exact this.symm
  have hlast : (l ++ [packP l T b s]).getD l.length zp = packP l T b s := by rw [List.getD_eq_getElem?_getD, List.getElem?_concat_length]; rfl
  have hnew : (al (l ++ [packP l T b s]) 5 l.length).2 = 0 ∧ txq (l ++ [packP l T b s]) l.length = (s, 0) := by
    by_cases hd : dpart l T b s = none
    · have hp : packP l T b s = ⟨false, 0, s⟩ := by unfold packP; rw [hd]; rfl
      have hd' : ((l ++ [packP l T b s]).getD l.length zp).d = false := by rw [hlast, hp]
      refine ⟨?_, ?_⟩
      · rw [al_plain (by rw [hlast, hp]; rfl) hd']
      · rw [txq_plain hd' [], hlast, hp]
        show (if 4099 < s.length then _ else _) = _
        rw [if_neg (by omega)]
    · by_cases hc : (depthR l b).2 = 0 ∧ (depthR l b).1 < 4 ∧ (dBy T b s).length < s.length
      · have hp : packP l T b s = ⟨true, b, dBy T b s⟩ := by unfold packP dpart; rw [if_pos hc]; rfl
        have hw0 : (wayR l b).2 = 0 := by
          have := hc.1
          unfold depthR at this
          by_cases c : (wayR l b).2 = 0
          · exact c
          · rw [if_neg c] at this; exact absurd this c
        have hw := wayR_way hw0
        have hlen : (wayR l b).1.length ≤ 4 := by
          have := hc.2.1
          unfold depthR at this
          rw [if_pos hw0] at this
          dsimp only at this
          omega
        have hb1 : b.toNat < l.length := by omega
        have he : al l 4 b.toNat = al l 5 b.toNat := by
          have e : wayR l b = al l 5 b.toNat := by unfold wayR; rw [if_neg (by omega)]
          rw [e] at hlen hw0
          exact al_less 5 _ 4 hw0 hlen
        have hf : fm ((l ++ [packP l T b s]).getD l.length zp) (l.length : Nat) = true := by rw [hlast, hp]; unfold fm; simp; omega
        have hdd : ((l ++ [packP l T b s]).getD l.length zp).d = true := by rw [hlast, hp]
        have hbb : ((l ++ [packP l T b s]).getD l.length zp).b.toNat = b.toNat := by rw [hlast, hp]
        refine ⟨?_, ?_⟩
        · have e2 := al_delta (k := 4) hf hdd []
          rw [pre_nil (al_err _ _ _), hbb, hold1 _ _ hb1, he] at e2
          rw [e2]
          unfold pre
          rw [if_pos (h.ok _ hb1)]
        · rw [txq_delta hdd (by rw [hbb]; exact hb1), hbb, hold2 _ hb1, h.text _ hb1, if_pos rfl, hlast, hp]
          unfold tlq
          rw [if_pos rfl]
          exact dBy_back (hT _ (getD_mem T [] _ (by omega))) hs4
      · exact absurd (by unfold dpart; rw [if_neg hc]) hd
  refine ⟨fun k hk => ?_, fun k hk => ?_⟩
  · rw [List.length_append, List.length_singleton] at hk
    by_cases e : k = l.length
    · rw [e]; exact hnew.1
    · rw [hold1 _ _ (by omega)]; exact h.ok k (by omega)
  · rw [List.length_append, List.length_singleton] at hk
    by_cases e : k = l.length
    · rw [e, hnew.2, hs]
    · rw [hold2 _ (by omega)]; exact h.text k (by omega)
theorem packL_PI {T : List (List UInt8)} {Bs : List Int} (hT : ∀ x ∈ T, x.length ≤ 4099) (h2 : T.length ≤ 200) : ∀ i, i ≤ T.length → PI T (packL T Bs i) := by
  intro i
  induction i with
  | zero => intro _; exact ⟨fun k hk => by simp [packL] at hk, fun k hk => by simp [packL] at hk⟩
  | succ i ih =>
    intro hi
    have := (ih (by omega)).step (by rw [packL_len]; omega) hT h2 (Bs.getD i 0)
    rw [packL_len] at this
    exact this
theorem PI.way {T : List (List UInt8)} {l : List Pt} (h : PI T l) (h2 : l.length ≤ 200) {k : Nat} (hk : k < l.length) : (wayR l (k : Int)).2 = 0 := by
  unfold wayR
  rw [if_neg (by omega)]
  exact h.ok k hk
theorem PI.all {T : List (List UInt8)} {l : List Pt} (h : PI T l) (h2 : l.length ≤ 200) (hl : l.length = T.length) : allT l = (T, 0) := by
  unfold allT
  have e : ∀ i, i < l.length → textR l ((i : Nat) : Int) = (T.getD i [], 0) := fun i hi => by
    unfold textR
    rw [if_pos (h.way h2 hi), Int.toNat_natCast, h.text i hi]
  rw [allR_all fun i hi => by rw [e i hi]]
  congr 1
  apply List.ext_getElem
  · simp [hl]
  · intro i h3 h4
    rw [List.getElem_map, List.getElem_range, e i (by omega)]
    dsimp only
    rw [List.getD_eq_getElem?_getD, List.getElem?_eq_getElem h4]
    rfl
theorem PI.depth {T : List (List UInt8)} {l : List Pt} (h : PI T l) (h2 : l.length ≤ 200) {k : Nat} (hk : k < l.length) : ∃ n : Nat, depthR l (k : Int) = ((n : Int), 0) ∧ n ≤ 4 ∧ n ≤ k := by
  have hw0 := h.way h2 hk
  obtain ⟨_, _, _, hw, hh, h5⟩ := wayR_way hw0
  have hlen := hw.len
  have hpos := hw.pos
  have e : (wayR l (k : Int)).1.getD 0 0 = k := by
    cases hp : (wayR l (k : Int)).1 with
    | nil => rw [hp] at hh; simp at hh
    | cons a r => rw [hp] at hh; simp only [List.head?_cons, Option.some.injEq, Int.toNat_natCast] at hh; subst hh; rfl
  rw [e] at hlen
  refine ⟨(wayR l (k : Int)).1.length - 1, ?_, by omega, by omega⟩
  unfold depthR
  rw [if_pos hw0]
  congr 1
  omega
/- the parts of texts; the error -/
def packR (T : List (List UInt8)) (Bs : List Int) : List Pt × Int :=
  if 200 < T.length ∨ Bs.length ≠ T.length then ([], 1) else if T.any (fun x => decide (4099 < x.length)) then ([], 19) else (packL T Bs T.length, 0)
end Go.Proofs.Ytekeaoolodmdaaa
