import Derived.Test.YtlbclfponongbaaGreatDoorMr
/- Objects, plainly: entries, commits, bodies, which may be. -/
namespace Go.Proofs.YtlbclfponongbaaGreatDoor
open Classical
/- an entry -/
structure Ent where
  name : List UInt8
  kind : Int
  id : Nat → UInt8
instance : Inhabited Ent := ⟨⟨[], 0, fun _ => 0⟩⟩
/- a commit: the tree, how many parents, the parents, the text -/
structure Com where
  tree : Nat → UInt8
  n : Nat
  par : Nat → Nat → UInt8
  text : List UInt8
def same32 (f g : Nat → UInt8) : Prop := ∀ i, i < 32 → f i = g i
theorem idL_congr {f g : Nat → UInt8} (h : same32 f g) : idL f = idL g := by
  unfold idL
  apply List.map_congr_left
  intro i hi
  exact h i (List.mem_range.1 hi)
theorem idL_inj {f g : Nat → UInt8} (h : idL f = idL g) : same32 f g := by
  intro i hi
  rw [← id_get f i hi, ← id_get g i hi, h]
theorem same32_iff {f g : Nat → UInt8} : idL f = idL g ↔ same32 f g := ⟨idL_inj, idL_congr⟩
theorem idL_idOf (s : List UInt8) (h : s.length = 32) : idL (idOf s) = s := by
  apply List.ext_getElem?
  intro i
  by_cases hi : i < 32
  · unfold idL idOf
    rw [List.getElem?_map, List.getElem?_range hi, List.getElem?_eq_getElem (by omega)]
    simp [List.getD_eq_getElem?_getD, List.getElem?_eq_getElem (show i < s.length by omega)]
  · rw [List.getElem?_eq_none (by rw [idL_length]; omega), List.getElem?_eq_none (by omega)]
/- the bytes of an entry, of a list of them -/
def eb (e : Ent) : List UInt8 := dg (clamp e.kind) ++ tx e.name ++ idL e.id
def tb (es : Nat → Ent) : Nat → List UInt8
  | 0 => []
  | k + 1 => tb es k ++ eb (es k)
/- a name that may be -/
def nok (b : UInt8) : Prop := 33 ≤ b.toNat ∧ b.toNat ≤ 126 ∧ b.toNat ≠ 47
def nameOk (s : List UInt8) : Prop := 1 ≤ s.length ∧ s.length ≤ 32 ∧ ∀ b ∈ s, nok b
def kindOk (k : Int) : Prop := k = 1 ∨ k = 2
/- entries that may be -/
def entsOk (es : Nat → Ent) (n : Nat) : Prop := n ≤ 32 ∧ (∀ i, i < n → nameOk (es i).name ∧ kindOk (es i).kind) ∧ ∀ i, i + 1 < n → Op.bytesLess (es i).name (es (i + 1)).name = true
/- a commit that may be -/
def comOk (c : Com) : Prop := c.n ≤ 4 ∧ c.text.length ≤ 64 ∧ ∀ i j, i < j → j < c.n → ¬ same32 (c.par i) (c.par j)
/- the bytes of the first k parents, of a commit -/
def pb (p : Nat → Nat → UInt8) : Nat → List UInt8
  | 0 => []
  | k + 1 => pb p k ++ idL (p k)
def comB (c : Com) : List UInt8 := idL c.tree ++ dg c.n ++ pb c.par c.n ++ tx c.text
def IsTree (l : List UInt8) (es : Nat → Ent) (n : Nat) : Prop := entsOk es n ∧ l = tb es n
def IsCom (l : List UInt8) (c : Com) : Prop := comOk c ∧ l = comB c
/- an object that may be -/
def objOk (k : Int) (l : List UInt8) : Prop := l.length ≤ 4096 ∧ (k = 1 ∨ (k = 2 ∧ ∃ es n, IsTree l es n) ∨ (k = 3 ∧ ∃ c, IsCom l c))
theorem dg_le6 {n : Nat} (h : n ≤ 1099511627775) : (dg n).length ≤ 6 := by
  have := dg_le n 0 (by omega) (by omega)
  omega
theorem tb_congr {es fs : Nat → Ent} : ∀ {n : Nat}, (∀ i, i < n → eb (es i) = eb (fs i)) → tb es n = tb fs n
  | 0, _ => rfl
  | k + 1, h => by
    show tb es k ++ _ = tb fs k ++ _
    rw [tb_congr (fun i hi => h i (by omega)), h k (by omega)]
theorem tb_split (es : Nat → Ent) (k : Nat) : ∀ m, k ≤ m → ∃ R, tb es m = tb es k ++ R
  | 0, h => ⟨[], by rw [show k = 0 by omega]; simp⟩
  | m + 1, h => by
    by_cases c : k ≤ m
    · obtain ⟨R, hR⟩ := tb_split es k m c
      exact ⟨R ++ eb (es m), by show tb es m ++ _ = _; rw [hR, List.append_assoc]⟩
    · exact ⟨[], by rw [show k = m + 1 by omega]; simp⟩
theorem pb_split (p : Nat → Nat → UInt8) (k : Nat) : ∀ m, k ≤ m → ∃ R, pb p m = pb p k ++ R
  | 0, h => ⟨[], by rw [show k = 0 by omega]; simp⟩
  | m + 1, h => by
    by_cases c : k ≤ m
    · obtain ⟨R, hR⟩ := pb_split p k m c
      exact ⟨R ++ idL (p m), by show pb p m ++ _ = _; rw [hR, List.append_assoc]⟩
    · exact ⟨[], by rw [show k = m + 1 by omega]; simp⟩
theorem pb_len (p : Nat → Nat → UInt8) : ∀ k, (pb p k).length = 32 * k
  | 0 => rfl
  | k + 1 => by
    show (pb p k ++ idL (p k)).length = _
    rw [List.length_append, pb_len p k, idL_length]; omega
theorem pb_congr {p q : Nat → Nat → UInt8} : ∀ {n : Nat}, (∀ i, i < n → same32 (p i) (q i)) → pb p n = pb q n
  | 0, _ => rfl
  | k + 1, h => by
    show pb p k ++ _ = pb q k ++ _
    rw [pb_congr (fun i hi => h i (by omega)), idL_congr (h k (by omega))]
theorem eb_pos (e : Ent) : 0 < (eb e).length := by
  unfold eb
  rw [List.length_append, List.length_append, idL_length]; omega
theorem tb_pos (es : Nat → Ent) {k m : Nat} (h : k < m) : (tb es k).length < (tb es m).length := by
  obtain ⟨R, hR⟩ := tb_split es (k + 1) m h
  rw [hR]
  show _ < (tb es k ++ eb (es k) ++ R).length
  rw [List.length_append, List.length_append]
  have := eb_pos (es k)
  omega
/- a text of which one is read, and read on: lengths of what is left -/
theorem kind_clamp {k : Int} (h : kindOk k) : clamp k = k.toNat ∧ (k.toNat : Int) = k ∧ k.toNat ≤ 2 := by
  rcases h with rfl | rfl <;> decide
/- three readings, one behind the other, of an entry: what there is, is read -/
theorem read_ent {l R : List UInt8} {p : Nat} {e : Ent} (hp : p ≤ l.length) (h : l.drop p = eb e ++ R) (hk : kindOk e.kind) (hn : e.name.length ≤ 32) :
    rNum 2 l p 0 = (e.kind.toNat, p + (dg e.kind.toNat).length, 0) ∧ rText 32 l (p + (dg e.kind.toNat).length) 0 = (e.name, p + (dg e.kind.toNat).length + (tx e.name).length, 0) ∧
    rRaw 32 l (p + (dg e.kind.toNat).length + (tx e.name).length) 0 = (idL e.id, p + (eb e).length, 0) := by
  obtain ⟨k1, k2, k3⟩ := kind_clamp hk
  have hl := drop_len2 h hp
  unfold eb at h hl ⊢
  rw [k1] at h hl ⊢
  rw [List.length_append, List.length_append, List.length_append, idL_length] at hl
  have e1 : l.drop (p + (dg e.kind.toNat).length) = tx e.name ++ (idL e.id ++ R) := by rw [drop_add, h]; simp
  have e2 : l.drop (p + (dg e.kind.toNat).length + (tx e.name).length) = idL e.id ++ R := by rw [drop_add, e1]; simp
  refine ⟨num_read (R := tx e.name ++ (idL e.id ++ R)) (by rw [h]; simp) (by omega) (by omega), text_read e1 (by omega) (by omega) (by omega), ?_⟩
  rw [raw_read (n := 32) e2 (by omega) (by rw [idL_length]; rfl)]
  rw [List.length_append, List.length_append]
  congr 2
  omega
/- and what was read without an error, was there -/
theorem num_there {most : Int} {l : List UInt8} {p n q : Nat} (hp : p ≤ l.length) (h : rNum most l p 0 = (n, q, 0)) : l.take q = l.take p ++ dg n ∧ n ≤ 1099511627775 ∧ (n : Int) ≤ most ∧ q = p + (dg n).length ∧ q ≤ l.length := by
  unfold rNum at h
  rw [if_neg (by simp)] at h
  split at h
  · rename_i hne
    simp only [Prod.mk.injEq] at h
    exact absurd h.2.2 hne
  · rename_i hz
    simp only [Prod.mk.injEq, and_true] at h
    obtain ⟨h1, h2⟩ := h
    obtain ⟨m, rest, g1, g2, g3, g4, g5, g6⟩ := rd_one most (l.drop p) 0 0 (rd most (l.drop p) 0 0).1 (rd most (l.drop p) 0 0).2.1 (by rw [← Classical.not_not.1 hz])
    have hm : m = n := by rw [← h1, g2]; omega
    subst hm
    have hq : q = p + (dg m).length := by rw [← h2, g3]; omega
    have hlen := congrArg List.length g1
    rw [List.length_drop, List.length_append] at hlen
    refine ⟨?_, by omega, by omega, hq, by omega⟩
    rw [hq, List.take_add, g1]
    simp
theorem raw_there {n : Int} {l s : List UInt8} {p q : Nat} (hp : p ≤ l.length) (hn : 0 ≤ n) (h : rRaw n l p 0 = (s, q, 0)) : l.take q = l.take p ++ s ∧ s.length = n.toNat ∧ q = p + n.toNat ∧ q ≤ l.length := by
  unfold rRaw at h
  rw [if_neg (by simp), if_neg (by omega)] at h
  split at h
  · simp at h
  · rename_i hz
    simp only [Prod.mk.injEq, and_true] at h
    obtain ⟨h1, h2⟩ := h
    refine ⟨?_, by rw [← h1, List.length_take, List.length_drop]; omega, by omega, by omega⟩
    rw [← h1, ← h2, List.take_add]
theorem text_there {most : Int} {l s : List UInt8} {p q : Nat} (hp : p ≤ l.length) (h : rText most l p 0 = (s, q, 0)) : l.take q = l.take p ++ tx s ∧ (s.length : Int) ≤ most ∧ s.length ≤ 1099511627775 ∧ q = p + (tx s).length ∧ q ≤ l.length := by
  unfold rText at h
  rw [if_neg (by simp)] at h
  obtain ⟨n, q1, e1, hnum⟩ : ∃ n q1 e1, rNum most l p 0 = (n, q1, e1) := ⟨_, _, _, rfl⟩
  rw [hnum] at h
  dsimp only at h
  by_cases he : e1 = 0
  · subst he
    obtain ⟨t1, t2, t3, t4, t5⟩ := num_there hp hnum
    obtain ⟨s2, q2, e2, hraw⟩ : ∃ s2 q2 e2, rRaw (n : Int) l q1 0 = (s2, q2, e2) := ⟨_, _, _, rfl⟩
    rw [hraw] at h
    dsimp only at h
    by_cases he2 : e2 = 0
    · subst he2
      rw [if_neg (by simp)] at h
      simp only [Prod.mk.injEq, and_true] at h
      obtain ⟨rfl, rfl⟩ := h
      obtain ⟨u1, u2, u3, u4⟩ := raw_there (by omega) (by omega) hraw
      have hs : s2.length = n := by omega
      have ht : tx s2 = dg n ++ s2 := by unfold tx; rw [hs, clamp_of (by omega) (by omega)]; simp
      refine ⟨by rw [u1, t1, ht, List.append_assoc], by omega, by omega, ?_, u4⟩
      rw [ht, List.length_append]; omega
    · rw [if_pos he2] at h
      simp only [Prod.mk.injEq] at h
      exact absurd h.2.2 he2
  · have e : rRaw (n : Int) l q1 e1 = ([], q1, e1) := by unfold rRaw; rw [if_pos he]
    rw [e, if_pos he] at h
    simp only [Prod.mk.injEq] at h
    exact absurd h.2.2 he
/- the errors of what is read first come through -/
theorem num_err {most : Int} {l : List UInt8} {p : Nat} {e : Int} (he : e ≠ 0) : rNum most l p e = (0, p, e) := by unfold rNum; rw [if_pos he]
theorem raw_err {n : Int} {l : List UInt8} {p : Nat} {e : Int} (he : e ≠ 0) : rRaw n l p e = ([], p, e) := by unfold rRaw; rw [if_pos he]
theorem text_err {most : Int} {l : List UInt8} {p : Nat} {e : Int} (he : e ≠ 0) : rText most l p e = ([], p, e) := by unfold rText; rw [if_pos he]
theorem text_le {most : Int} (l : List UInt8) (p : Nat) (e : Int) (hp : p ≤ l.length) : (rText most l p e).2.1 ≤ l.length := rText_le most l p e hp
theorem num_most {most : Int} (l : List UInt8) (p : Nat) (e : Int) (h0 : 0 ≤ most) (hp : p ≤ l.length) : ((rNum most l p e).1 : Int) ≤ most := by
  by_cases he : e = 0
  · subst he
    by_cases h2 : (rNum most l p 0).2.2 = 0
    · exact (num_there hp (show rNum most l p 0 = ((rNum most l p 0).1, (rNum most l p 0).2.1, 0) from Prod.ext rfl (Prod.ext rfl h2))).2.2.1
    · unfold rNum at h2 ⊢
      rw [if_neg (by simp)] at h2 ⊢
      split
      · exact h0
      · rename_i h3
        rw [if_neg h3] at h2
        exact absurd rfl h2
  · rw [num_err he]; exact h0
end Go.Proofs.YtlbclfponongbaaGreatDoor
