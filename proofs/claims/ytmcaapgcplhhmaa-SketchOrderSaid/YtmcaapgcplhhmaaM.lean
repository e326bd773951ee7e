import Derived.Test.YtmcaapgcplhhmaaG
/- The first of the least ones; the order in which each place stands near the one ahead: plain mathematics. -/
namespace Go.Proofs.Ytmcaapgcplhhmaa
/- of the first n, the first one of the least of those of which p speaks -/
def bst (p : Nat → Bool) (d : Nat → Nat) : Nat → Option Nat
  | 0 => none
  | n + 1 => if p n = true then (match bst p d n with
    | none => some n
    | some b => if d n < d b then some n else some b) else bst p d n
def pos : Option Nat → Int
  | none => -1
  | some b => (b : Int)
theorem bst_skip {p : Nat → Bool} {d : Nat → Nat} {n : Nat} (h : p n = false) : bst p d (n + 1) = bst p d n := by
  unfold bst
  rw [if_neg (by rw [h]; decide)]
  cases n <;> rfl
theorem bst_first {p : Nat → Bool} {d : Nat → Nat} {n : Nat} (h : p n = true) (h2 : bst p d n = none) : bst p d (n + 1) = some n := by
  show (if p n = true then (match bst p d n with | none => some n | some b => if d n < d b then some n else some b) else bst p d n) = _
  rw [if_pos h, h2]
theorem bst_less {p : Nat → Bool} {d : Nat → Nat} {n b : Nat} (h : p n = true) (h2 : bst p d n = some b) (h3 : d n < d b) : bst p d (n + 1) = some n := by
  show (if p n = true then (match bst p d n with | none => some n | some b => if d n < d b then some n else some b) else bst p d n) = _
  rw [if_pos h, h2]
  show (if d n < d b then some n else some b) = _
  rw [if_pos h3]
theorem bst_more {p : Nat → Bool} {d : Nat → Nat} {n b : Nat} (h2 : bst p d n = some b) (h3 : p n = true → ¬ d n < d b) : bst p d (n + 1) = some b := by
  cases h : p n
  · rw [bst_skip h, h2]
  · show (if p n = true then (match bst p d n with | none => some n | some b => if d n < d b then some n else some b) else bst p d n) = _
    rw [if_pos h, h2]
    show (if d n < d b then some n else some b) = _
    rw [if_neg (h3 h)]
theorem bst_some {p : Nat → Bool} {d : Nat → Nat} {n b : Nat} (h : bst p d n = some b) : b < n ∧ p b = true ∧ ∀ i, i < n → p i = true → d b ≤ d i := by
  induction n generalizing b with
  | zero => cases h
  | succ n ih =>
    cases hp : p n
    · rw [bst_skip hp] at h
      obtain ⟨h1, h2, h3⟩ := ih h
      refine ⟨by omega, h2, fun i hi hpi => ?_⟩
      by_cases c : i < n
      · exact h3 i c hpi
      · have : i = n := by omega
        subst this
        rw [hp] at hpi; cases hpi
    · cases hb : bst p d n with
      | none =>
        rw [bst_first hp hb] at h
        cases h
        refine ⟨by omega, hp, fun i hi hpi => ?_⟩
        by_cases c : i < n
        · exfalso
          have key : ∀ m, bst p d m = none → ∀ j, j < m → p j = false := by
            intro m
            induction m with
            | zero => intro _ j hj; omega
            | succ m ihm =>
              intro hm j hj
              cases hq : p m
              · rw [bst_skip hq] at hm
                by_cases c2 : j < m
                · exact ihm hm j c2
                · have : j = m := by omega
                  subst this; exact hq
              · cases hb2 : bst p d m with
                | none => rw [bst_first hq hb2] at hm; cases hm
                | some b2 =>
                  by_cases c3 : d m < d b2
                  · rw [bst_less hq hb2 c3] at hm; cases hm
                  · rw [bst_more hb2 (fun _ => c3)] at hm; cases hm
          have := key n hb i c
          rw [hpi] at this; cases this
        · have : i = n := by omega
          subst this; omega
      | some b2 =>
        obtain ⟨h1, h2, h3⟩ := ih hb
        by_cases c3 : d n < d b2
        · rw [bst_less hp hb c3] at h
          cases h
          refine ⟨by omega, hp, fun i hi hpi => ?_⟩
          by_cases c : i < n
          · have := h3 i c hpi; omega
          · have : i = n := by omega
            subst this; omega
        · rw [bst_more hb (fun _ => c3)] at h
          cases h
          refine ⟨by omega, h2, fun i hi hpi => ?_⟩
          by_cases c : i < n
          · exact h3 i c hpi
          · have : i = n := by omega
            subst this; omega
theorem bst_there {p : Nat → Bool} {d : Nat → Nat} {n i : Nat} (hi : i < n) (hp : p i = true) : ∃ b, bst p d n = some b := by
  induction n with
  | zero => omega
  | succ n ih =>
    cases hb : bst p d n with
    | none =>
      by_cases c : i < n
      · obtain ⟨b, hb2⟩ := ih c; rw [hb] at hb2; cases hb2
      · have : i = n := by omega
        subst this
        exact ⟨_, bst_first hp hb⟩
    | some b =>
      cases hq : p n
      · exact ⟨b, by rw [bst_skip hq, hb]⟩
      · by_cases c3 : d n < d b
        · exact ⟨_, bst_less hq hb c3⟩
        · exact ⟨_, bst_more hb (fun _ => c3)⟩
theorem bst_congr {p q : Nat → Bool} {d e : Nat → Nat} {n : Nat} (hp : ∀ i, i < n → p i = q i) (hd : ∀ i, i < n → d i = e i) : bst p d n = bst q e n := by
  induction n with
  | zero => rfl
  | succ n ih =>
    have h := ih (fun i hi => hp i (by omega)) (fun i hi => hd i (by omega))
    cases hb : bst q e n with
    | none =>
      cases hq : q n
      · rw [bst_skip hq, bst_skip (by rw [hp n (by omega)]; exact hq), h]
      · rw [bst_first hq hb, bst_first (by rw [hp n (by omega)]; exact hq) (by rw [h, hb])]
    | some b =>
      have hlt := (bst_some hb).1
      cases hq : q n
      · rw [bst_skip hq, bst_skip (by rw [hp n (by omega)]; exact hq), h]
      · by_cases c : e n < e b
        · rw [bst_less hq hb c, bst_less (by rw [hp n (by omega)]; exact hq) (by rw [h, hb]) (by rw [hd n (by omega), hd b (by omega)]; exact c)]
        · rw [bst_more hb (fun _ => c), bst_more (by rw [h, hb]) (fun _ => by rw [hd n (by omega), hd b (by omega)]; exact c)]
/- the first one that isn't apart at all is the first of the least -/
theorem bst_zero {p : Nat → Bool} {d : Nat → Nat} {k : Nat} (hk : p k = true) (h0 : d k = 0) (h1 : ∀ i, i < k → d i ≠ 0) (n : Nat) (hn : k < n) : bst p d n = some k := by
  induction n with
  | zero => omega
  | succ n ih =>
    by_cases c : k < n
    · exact bst_more (ih c) (fun _ => by omega)
    · have : k = n := by omega
      subst this
      cases hb : bst p d k with
      | none => exact bst_first hk hb
      | some b =>
        have := h1 b (bst_some hb).1
        exact bst_less hk hb (by omega)
/- the same among those that are left, by their places -/
theorem bst_filter (p : Nat → Bool) (d : Nat → Nat) (n : Nat) : bst p d n = (bst (fun _ => true) (fun i => d (((List.range n).filter p).getD i 0)) ((List.range n).filter p).length).map (fun i => ((List.range n).filter p).getD i 0) := by
  induction n with
  | zero => rfl
  | succ n ih =>
    cases hp : p n
    · have e : (List.range (n + 1)).filter p = (List.range n).filter p := by rw [List.range_succ, List.filter_append]; simp [hp]
      rw [e, bst_skip hp]
      exact ih
    · have e : (List.range (n + 1)).filter p = (List.range n).filter p ++ [n] := by rw [List.range_succ, List.filter_append]; simp [hp]
      rw [e]
      generalize (List.range n).filter p = l at *
      have g1 : ∀ i, i < l.length → (l ++ [n]).getD i 0 = l.getD i 0 := fun i hi => by rw [List.getD_eq_getElem?_getD, List.getD_eq_getElem?_getD, List.getElem?_append_left hi]
      have g2 : (l ++ [n]).getD l.length 0 = n := by rw [List.getD_eq_getElem?_getD, List.getElem?_append_right (Nat.le_refl _), Nat.sub_self]; rfl
      have hc : bst (fun _ => true) (fun i => d ((l ++ [n]).getD i 0)) l.length = bst (fun _ => true) (fun i => d (l.getD i 0)) l.length := bst_congr (fun _ _ => rfl) (fun i hi => by rw [g1 i hi])
      rw [List.length_append, List.length_singleton]
      cases hb : bst (fun _ => true) (fun i => d (l.getD i 0)) l.length with
      | none =>
        rw [hb] at ih hc
        rw [bst_first hp ih, bst_first (p := fun _ => true) rfl hc]
        exact congrArg some g2.symm
      | some b =>
        rw [hb] at ih hc
        have hlt := (bst_some hb).1
        by_cases c : d n < d (l.getD b 0)
        · rw [bst_less hp ih c, bst_less (p := fun _ => true) rfl hc (by rw [g2, g1 b hlt]; exact c)]
          exact congrArg some g2.symm
        · rw [bst_more ih (fun _ => c), bst_more hc (fun _ => by rw [g2, g1 b hlt]; exact c)]
          exact congrArg some (g1 b hlt).symm
/- the next place: the first of the nearest to the last one, of those that don't stand in the list -/
def nxt (D : Nat → Nat → Nat) (len : Nat) (l : List Nat) : Nat :=
  match l.getLast? with
  | none => 0
  | some c => (bst (fun i => !l.contains i) (D c) len).getD 0
def ord (D : Nat → Nat → Nat) (len : Nat) : Nat → List Nat
  | 0 => []
  | n + 1 => ord D len n ++ [nxt D len (ord D len n)]
/- place n of the order -/
def pl (D : Nat → Nat → Nat) (len n : Nat) : Nat := nxt D len (ord D len n)
/- those that are left -/
def lft (D : Nat → Nat → Nat) (len n : Nat) : List Nat := (List.range len).filter (fun i => !(ord D len n).contains i)
theorem ord_succ (D : Nat → Nat → Nat) (len n : Nat) : ord D len (n + 1) = ord D len n ++ [pl D len n] := rfl
theorem ord_length (D : Nat → Nat → Nat) (len n : Nat) : (ord D len n).length = n := by
  induction n with
  | zero => rfl
  | succ n ih => rw [ord_succ, List.length_append, ih]; rfl
theorem ord_last (D : Nat → Nat → Nat) (len n : Nat) : (ord D len (n + 1)).getLast? = some (pl D len n) := by rw [ord_succ]; simp
theorem ord_mem (D : Nat → Nat → Nat) (len n x : Nat) : x ∈ ord D len n ↔ ∃ j, j < n ∧ pl D len j = x := by
  induction n with
  | zero => constructor
            · intro h; cases h
            · rintro ⟨j, hj, _⟩; omega
  | succ n ih =>
    rw [ord_succ, List.mem_append, ih, List.mem_singleton]
    constructor
    · rintro (⟨j, hj, h⟩ | h)
      · exact ⟨j, by omega, h⟩
      · exact ⟨n, by omega, h.symm⟩
    · rintro ⟨j, hj, h⟩
      by_cases c : j < n
      · exact .inl ⟨j, c, h⟩
      · have : j = n := by omega
        subst this; exact .inr h.symm
theorem ord_get (D : Nat → Nat → Nat) (len n : Nat) : ∀ j, j < n → (ord D len n)[j]? = some (pl D len j) := by
  induction n with
  | zero => intro j hj; omega
  | succ n ih =>
    intro j hj
    rw [ord_succ]
    by_cases c : j < n
    · rw [List.getElem?_append_left (by rw [ord_length]; exact c)]; exact ih j c
    · have : j = n := by omega
      subst this
      rw [List.getElem?_append_right (by rw [ord_length]; exact Nat.le_refl _), ord_length, Nat.sub_self]; rfl
theorem pl_zero (D : Nat → Nat → Nat) (len : Nat) : pl D len 0 = 0 := rfl
theorem pl_succ (D : Nat → Nat → Nat) (len n : Nat) : pl D len (n + 1) = (bst (fun i => !(ord D len (n + 1)).contains i) (D (pl D len n)) len).getD 0 := by
  show nxt D len (ord D len (n + 1)) = _
  unfold nxt
  rw [ord_last]
theorem mem_lft (D : Nat → Nat → Nat) (len n x : Nat) : x ∈ lft D len n ↔ x < len ∧ x ∉ ord D len n := by
  unfold lft
  rw [List.mem_filter, List.mem_range]
  simp
theorem nodup_erase (l : List Nat) (hl : l.Nodup) (k : Nat) (hk : k < l.length) : l.eraseIdx k = l.filter (fun i => i != l[k]) := by
  induction l generalizing k with
  | nil => simp at hk
  | cons a l ih =>
    obtain ⟨ha, hl2⟩ := List.nodup_cons.1 hl
    cases k with
    | zero =>
      show l = _
      rw [List.getElem_cons_zero, List.filter_cons_of_neg (by simp)]
      rw [List.filter_eq_self.2]
      intro x hx
      simp
      intro e
      subst e
      exact ha hx
    | succ k =>
      have hk2 : k < l.length := by simpa using hk
      show a :: l.eraseIdx k = _
      rw [List.getElem_cons_succ, List.filter_cons_of_pos (by
        simp
        intro e
        exact ha (e ▸ List.getElem_mem hk2)), ih hl2 k hk2]
theorem lft_nodup (D : Nat → Nat → Nat) (len n : Nat) : (lft D len n).Nodup := List.Pairwise.filter _ List.nodup_range
theorem lft_step (D : Nat → Nat → Nat) (len n k : Nat) (hk : k < (lft D len n).length) (h : (lft D len n).getD k 0 = pl D len n) : lft D len (n + 1) = (lft D len n).eraseIdx k := by
  rw [nodup_erase _ (lft_nodup D len n) k hk]
  have hk' : (lft D len n)[k] = pl D len n := by
    rw [← h, List.getD_eq_getElem?_getD, List.getElem?_eq_getElem hk]; rfl
  rw [hk']
  unfold lft
  rw [List.filter_filter, ord_succ]
  apply List.filter_congr
  intro x _
  rw [List.contains_eq_mem, List.contains_eq_mem, Bool.eq_iff_iff]
  simp
  exact And.comm
/- each step: the nearest of those that are left -/
theorem step_near (D : Nat → Nat → Nat) (len n : Nat) (h : 0 < (lft D len (n + 1)).length) :
    ∃ k, bst (fun _ => true) (fun i => D (pl D len n) ((lft D len (n + 1)).getD i 0)) (lft D len (n + 1)).length = some k ∧ k < (lft D len (n + 1)).length ∧ (lft D len (n + 1)).getD k 0 = pl D len (n + 1) := by
  obtain ⟨k, hk⟩ := bst_there (p := fun _ => true) (d := fun i => D (pl D len n) ((lft D len (n + 1)).getD i 0)) h rfl
  refine ⟨k, hk, (bst_some hk).1, ?_⟩
  rw [pl_succ, bst_filter]
  unfold lft at hk ⊢
  rw [hk]
  rfl
theorem lft_length (D : Nat → Nat → Nat) (len n : Nat) (h : n ≤ len) : (lft D len n).length = len - n := by
  induction n with
  | zero =>
    have : lft D len 0 = List.range len := by
      unfold lft
      rw [List.filter_eq_self.2]
      intro x _
      rfl
    rw [this, List.length_range]; rfl
  | succ n ih =>
    have hn := ih (by omega)
    cases n with
    | zero =>
      have e0 : lft D len 0 = List.range len := by
        unfold lft
        rw [List.filter_eq_self.2]
        intro x _
        rfl
      rw [lft_step D len 0 0 (by omega) (by
        rw [e0, pl_zero, List.getD_eq_getElem?_getD, List.getElem?_range (by omega)]; rfl), List.length_eraseIdx_of_lt (by omega)]
      omega
    | succ m =>
      obtain ⟨k, _, hk1, hk2⟩ := step_near D len m (by omega)
      rw [lft_step D len (m + 1) k hk1 hk2, List.length_eraseIdx_of_lt hk1]
      omega
theorem pl_mem (D : Nat → Nat → Nat) (len n : Nat) (h : n < len) : pl D len n ∈ lft D len n := by
  cases n with
  | zero =>
    rw [mem_lft, pl_zero]
    exact ⟨by omega, by intro h; cases h⟩
  | succ m =>
    obtain ⟨k, _, hk1, hk2⟩ := step_near D len m (by rw [lft_length D len (m + 1) (by omega)]; omega)
    rw [← hk2, List.getD_eq_getElem?_getD, List.getElem?_eq_getElem hk1]
    exact List.getElem_mem hk1
theorem pl_lt (D : Nat → Nat → Nat) (len n : Nat) (h : n < len) : pl D len n < len := ((mem_lft D len n _).1 (pl_mem D len n h)).1
theorem pl_ne (D : Nat → Nat → Nat) (len i k : Nat) (h1 : i < k) (h2 : k < len) : pl D len k ≠ pl D len i := by
  intro e
  refine ((mem_lft D len k _).1 (pl_mem D len k h2)).2 ?_
  rw [ord_mem]
  exact ⟨i, h1, e.symm⟩
theorem pl_near (D : Nat → Nat → Nat) (len i k : Nat) (h1 : i < k) (h2 : k < len) (h0 : 0 < i) : D (pl D len (i - 1)) (pl D len i) ≤ D (pl D len (i - 1)) (pl D len k) := by
  obtain ⟨m, rfl⟩ : ∃ m, i = m + 1 := ⟨i - 1, by omega⟩
  rw [show m + 1 - 1 = m by omega]
  have hin : pl D len (m + 1) ∈ lft D len (m + 1) := pl_mem D len (m + 1) (by omega)
  obtain ⟨b, hb⟩ := bst_there (p := fun i => !(ord D len (m + 1)).contains i) (d := D (pl D len m)) (pl_lt D len (m + 1) (by omega)) (by
    have := ((mem_lft D len (m + 1) _).1 hin).2
    simpa using this)
  have e : pl D len (m + 1) = b := by rw [pl_succ, hb]; rfl
  rw [e]
  refine (bst_some hb).2.2 _ (pl_lt D len k h2) ?_
  have hk : pl D len k ∉ ord D len (m + 1) := by
    rw [ord_mem]
    rintro ⟨j, hj, ej⟩
    exact pl_ne D len j k (by omega) h2 ej.symm
  simpa using hk
end Go.Proofs.Ytmcaapgcplhhmaa
