import Derived.Test.YtlbclfponongbaaGreatDoorO7m
/- Reading a tree's body, plainly; appends to rows of the call's own. -/
namespace Go.Proofs.YtlbclfponongbaaGreatDoor
open Go.RowKit Classical
def eqE (e f : Ent) : Prop := e.name = f.name ∧ e.kind = f.kind ∧ same32 e.id f.id
theorem eqE.refl (e : Ent) : eqE e e := ⟨rfl, rfl, fun _ _ => rfl⟩
theorem eqE.bytes {e f : Ent} (h : eqE e f) : eb e = eb f := by
  unfold eb
  rw [h.1, h.2.1, idL_congr h.2.2]
def upE (es : Nat → Ent) (k : Nat) (x : Ent) (i : Nat) : Ent := if i = k then x else es i
theorem upE_same (es : Nat → Ent) (k : Nat) (x : Ent) : upE es k x k = x := by unfold upE; rw [if_pos rfl]
theorem upE_old (es : Nat → Ent) (k : Nat) (x : Ent) (i : Nat) (h : i < k) : upE es k x i = es i := by unfold upE; rw [if_neg (by omega)]
theorem tb_up (es : Nat → Ent) (k : Nat) (x : Ent) : tb (upE es k x) (k + 1) = tb es k ++ eb x := by
  show tb (upE es k x) k ++ eb (upE es k x k) = _
  rw [upE_same, tb_congr (fs := es) fun i hi => by rw [upE_old es k x i hi]]
/- no reading ends with 5 -/
theorem num_five (most : Int) (l : List UInt8) (p : Nat) (e : Int) (h : e ≠ 5) : (rNum most l p e).2.2 ≠ 5 := by
  unfold rNum
  split
  · exact h
  · split
    · rcases rd_zero_err most (l.drop p) 0 0 with h2 | ⟨_, _, h2⟩
      · rename_i h3; exact absurd h2 h3
      · intro h4
        dsimp only at h4
        omega
    · simp
theorem raw_five (n : Int) (l : List UInt8) (p : Nat) (e : Int) (h : e ≠ 5) : (rRaw n l p e).2.2 ≠ 5 := by
  unfold rRaw
  split
  · exact h
  · split
    · simp
    · split <;> simp
theorem text_five (most : Int) (l : List UInt8) (p : Nat) (e : Int) (h : e ≠ 5) : (rText most l p e).2.2 ≠ 5 := by
  unfold rText
  split
  · exact h
  · split
    · exact raw_five _ _ _ _ (num_five _ _ _ _ (by omega))
    · exact raw_five _ _ _ _ (num_five _ _ _ _ (by omega))
theorem text_size (most : Nat) (l : List UInt8) (p : Nat) (e : Int) (hp : p ≤ l.length) : (rText most l p e).1.length ≤ most := by
  by_cases he : e = 0
  · subst he
    by_cases h2 : (rText most l p 0).2.2 = 0
    · have := (text_there hp (show rText most l p 0 = ((rText most l p 0).1, (rText most l p 0).2.1, 0) from Prod.ext rfl (Prod.ext rfl h2))).2.1
      omega
    · unfold rText at h2 ⊢
      rw [if_neg (by simp)] at h2 ⊢
      split
      · rename_i h3
        have : (rRaw (rNum most l p 0).1 l (rNum most l p 0).2.1 (rNum most l p 0).2.2).1 = [] := by
          unfold rRaw at h3 ⊢
          split
          · rfl
          · split
            · rfl
            · split
              · rfl
              · rename_i a b c
                rw [if_neg a, if_neg b, if_neg c] at h3
                exact absurd rfl h3
        rw [this]; simp
      · rename_i h3
        rw [if_neg h3] at h2
        exact absurd h2 h3
  · rw [text_err he]; simp
theorem raw_idL {l s : List UInt8} {p q : Nat} {e e2 : Int} (hp : p ≤ l.length) (h : rRaw 32 l p e = (s, q, e2)) (h2 : e2 = 0) : e = 0 ∧ l.take q = l.take p ++ s ∧ s.length = 32 ∧ q = p + 32 ∧ q ≤ l.length := by
  subst h2
  by_cases he : e = 0
  · subst he
    obtain ⟨h1, h2, h3, h4⟩ := raw_there hp (by omega) h
    exact ⟨rfl, h1, h2, h3, h4⟩
  · rw [raw_err he] at h
    simp only [Prod.mk.injEq] at h
    exact absurd h.2.2 he
/- what holds of the entries read so far -/
structure PI (l : List UInt8) (es : Nat → Ent) (k p : Nat) (e : Int) : Prop where
  le : p ≤ l.length
  five : e ≠ 5
  names : ∀ i, i < k → (es i).name.length ≤ 32
  sound : e = 0 → l.take p = tb es k
  cnt : 33 * k ≤ l.length + 33
  full : ∀ fs m, IsTree l fs m → e = 0 ∧ k ≤ m ∧ p = (tb fs k).length ∧ ∀ i, i < k → eqE (es i) (fs i)
theorem PI.zero (l : List UInt8) (es : Nat → Ent) : PI l es 0 0 0 :=
  ⟨Nat.zero_le _, by decide, fun i hi => absurd hi (by omega), fun _ => by simp [tb], by omega, fun fs m _ => ⟨rfl, Nat.zero_le _, rfl, fun i hi => absurd hi (by omega)⟩⟩
theorem eb_big (e : Ent) : 33 ≤ (eb e).length := by
  unfold eb
  have := dg_pos (clamp e.kind)
  rw [List.length_append, List.length_append, idL_length]; omega
theorem tb_big (es : Nat → Ent) : ∀ k, 33 * k ≤ (tb es k).length
  | 0 => Nat.zero_le _
  | k + 1 => by
    have h1 := tb_big es k
    have h2 := eb_big (es k)
    show _ ≤ (tb es k ++ eb (es k)).length
    rw [List.length_append]; omega
theorem PI.few {l : List UInt8} {es : Nat → Ent} {k p : Nat} (h : PI l es k p 0) : 33 * k ≤ l.length := by
  have h1 := h.sound rfl
  have h2 := tb_big es k
  rw [← h1, List.length_take] at h2
  omega
theorem PI.step {l : List UInt8} {es : Nat → Ent} {k p n1 p1 p2 p3 : Nat} {s2 s3 : List UInt8} {e1 e2 e3 : Int} (h : PI l es k p 0) (hp : p < l.length) (h1 : rNum 2 l p 0 = (n1, p1, e1)) (h2 : rText 32 l p1 e1 = (s2, p2, e2)) (h3 : rRaw 32 l p2 e2 = (s3, p3, e3)) :
    PI l (upE es k ⟨s2, n1, idOf s3⟩) (k + 1) p3 e3 ∧ (e3 = 0 → p < p3) := by
  have l1 : p1 ≤ l.length := by have := rNum_le 2 l p 0 h.le; rw [h1] at this; exact this
  have l2 : p2 ≤ l.length := by have := rText_le 32 l p1 e1 l1; rw [h2] at this; exact this
  have l3 : p3 ≤ l.length := by have := rRaw_le 32 l p2 e2 l2; rw [h3] at this; exact this
  have v1 : e1 ≠ 5 := by have := num_five 2 l p 0 (by decide); rw [h1] at this; exact this
  have v2 : e2 ≠ 5 := by have := text_five 32 l p1 e1 v1; rw [h2] at this; exact this
  have v3 : e3 ≠ 5 := by have := raw_five 32 l p2 e2 v2; rw [h3] at this; exact this
  have z2 : s2.length ≤ 32 := by have := text_size 32 l p1 e1 l1; rw [show ((32 : Nat) : Int) = 32 from rfl, h2] at this; exact this
  have snd : e3 = 0 → l.take p3 = l.take p ++ eb ⟨s2, n1, idOf s3⟩ ∧ p < p3 := by
    intro he
    obtain ⟨r1, r2, r3, r4, r5⟩ := raw_idL l2 h3 he
    have he1 : e1 = 0 := by
      by_cases c : e1 = 0
      · exact c
      · rw [text_err c] at h2
        simp only [Prod.mk.injEq] at h2
        exact absurd (h2.2.2.trans r1) c
    rw [r1] at h2
    rw [he1] at h1 h2
    obtain ⟨t1, t2, t3, t4, t5⟩ := text_there l1 h2
    obtain ⟨u1, u2, u3, u4, u5⟩ := num_there h.le h1
    have hd := dg_pos n1
    refine ⟨?_, by omega⟩
    rw [r2, t1, u1]
    unfold eb
    dsimp only
    rw [idL_idOf s3 r3, clamp_of (by omega) (by omega)]
    simp [List.append_assoc]
  refine ⟨⟨l3, v3, fun i hi => ?_, fun he => ?_, by have := h.few; omega, fun fs m hT => ?_⟩, fun he => (snd he).2⟩
  · by_cases c : i < k
    · rw [upE_old _ _ _ _ c]; exact h.names i c
    · rw [show i = k by omega, upE_same]; exact z2
  · rw [(snd he).1, h.sound rfl, tb_up]
  · obtain ⟨-, f1, f2, f3⟩ := h.full fs m hT
    obtain ⟨ok, hl⟩ := hT
    have hkm : k < m := by
      by_cases c : k < m
      · exact c
      · have e : k = m := by omega
        subst e
        rw [← hl] at f2
        omega
    obtain ⟨R, hR⟩ := tb_split fs (k + 1) m hkm
    have hd : l.drop p = eb (fs k) ++ R := by
      rw [hl, hR, f2]
      show (tb fs k ++ eb (fs k) ++ R).drop _ = _
      rw [List.append_assoc, List.drop_append_of_le_length (Nat.le_refl _), List.drop_length, List.nil_append]
    obtain ⟨g1, g2, g3⟩ := read_ent h.le hd (ok.2.1 k hkm).2 (ok.2.1 k hkm).1.2.1
    rw [h1] at g1
    simp only [Prod.mk.injEq] at g1
    obtain ⟨a1, a2, a3⟩ := g1
    subst a1 a2 a3
    rw [g2] at h2
    simp only [Prod.mk.injEq] at h2
    obtain ⟨b1, b2, b3⟩ := h2
    subst b1 b2 b3
    rw [g3] at h3
    simp only [Prod.mk.injEq] at h3
    obtain ⟨c1, c2, c3⟩ := h3
    refine ⟨c3.symm, hkm, ?_, fun i hi => ?_⟩
    · rw [← c2, f2]
      show _ = (tb fs k ++ eb (fs k)).length
      rw [List.length_append]
    · by_cases c : i < k
      · rw [upE_old _ _ _ _ c]; exact f3 i c
      · rw [show i = k by omega, upE_same]
        refine ⟨rfl, ?_, fun j hj => ?_⟩
        · exact (kind_clamp (ok.2.1 k hkm).2).2.1
        · show idOf s3 j = _
          rw [← c1, id_get _ j hj]
def isTree (l : List UInt8) : Prop := ∃ es n, IsTree l es n
theorem entsOk_congr {es fs : Nat → Ent} {n : Nat} (h : ∀ i, i < n → eqE (es i) (fs i)) (ho : entsOk fs n) : entsOk es n := by
  obtain ⟨h1, h2, h3⟩ := ho
  refine ⟨h1, fun i hi => ?_, fun i hi => ?_⟩
  · rw [(h i hi).1, (h i hi).2.1]; exact h2 i hi
  · rw [(h i (by omega)).1, (h (i + 1) hi).1]; exact h3 i hi
theorem PI.end {l : List UInt8} {es : Nat → Ent} {k p : Nat} {e : Int} (h : PI l es k p e) (h5 : endOf l.length p e ≠ 5) : (endOf l.length p e = 0 ∧ entsOk es k ↔ isTree l) ∧ (endOf l.length p e = 0 → entsOk es k → IsTree l es k) := by
  have key : endOf l.length p e = 0 → entsOk es k → IsTree l es k := by
    intro h0 hok
    unfold endOf at h0
    split at h0
    · rename_i h1; exact absurd h0 h1
    · rename_i h1
      split at h0
      · omega
      · have e0 : e = 0 := by omega
        have hp : p = l.length := by have := h.le; omega
        have := h.sound e0
        rw [hp, List.take_length] at this
        exact ⟨hok, this⟩
  refine ⟨⟨fun ⟨h0, hok⟩ => ⟨es, k, key h0 hok⟩, ?_⟩, key⟩
  rintro ⟨fs, m, hT⟩
  obtain ⟨f0, f1, f2, f3⟩ := h.full fs m hT
  have hp : ¬ p < l.length := by
    intro c
    apply h5
    unfold endOf
    rw [if_neg (by omega), if_pos c]
  have hkm : k = m := by
    by_cases c : k < m
    · have := tb_pos fs c
      rw [← hT.2] at this
      omega
    · omega
  subst hkm
  refine ⟨?_, entsOk_congr f3 hT.1⟩
  unfold endOf
  rw [if_neg (by omega), if_neg hp]
/- where a reader stands, as a measure -/
def rdM (n : Nat) (w : World) (r : Nat) : Nat :=
  match w.cell? ⟨r, 1, none⟩, w.cell? ⟨r, 2, none⟩ with
  | some (.int _ p), some (.int _ e) => if e = 0 then n + 1 - p.toNat else 0
  | _, _ => 0
theorem rdM_of {w : World} {r : Nat} {l : List UInt8} {p : Nat} {e : Int} (h : Rd w r l p e) (n : Nat) : rdM n w r = if e = 0 then n + 1 - p else 0 := by
  unfold rdM
  rw [h.cells.2.1, h.cells.2.2.1]
  simp
/- appends to a row of the call's own -/
theorem arr_add (a m : Nat) (c : Nat → Value) : (arr a c).toList ++ (arr m (fun j => c (a + j))).toList = (arr (a + m) c).toList := by
  apply List.ext_getElem?
  intro i
  by_cases h : i < a
  · rw [List.getElem?_append_left (by rw [Array.length_toList, arr_size]; exact h), Array.getElem?_toList, Array.getElem?_toList, arr_get _ _ _ h, arr_get _ _ _ (by omega)]
  · rw [List.getElem?_append_right (by rw [Array.length_toList, arr_size]; omega), Array.length_toList, arr_size, Array.getElem?_toList, Array.getElem?_toList]
    by_cases h2 : i < a + m
    · rw [arr_get _ _ _ (by omega), arr_get _ _ _ h2, show a + (i - a) = i by omega]
    · rw [Array.getElem?_eq_none (by rw [arr_size]; omega), Array.getElem?_eq_none (by rw [arr_size]; omega)]
theorem owns_keep {K : Nat → Prop} {w w' : World} {B e m : Nat} {v : Value} {n : Nat} {xs : List Value} (h : w.ownsRow B e m v n xs) (hk : Keep K w w') (hK : ∀ g, v.ownBlock = some g → K g) : w'.ownsRow B e m v n xs := by
  refine ⟨h.1, ?_⟩
  rcases h.2 with hn | ⟨g, cap, cur, rfl, hbg, hgg, rest⟩
  · exact .inl hn
  · exact .inr ⟨g, cap, cur, rfl, hbg, by rw [hk.block g (hK g rfl) (lt_of_block hgg)]; exact hgg, rest⟩
theorem owns_all {w w' : World} {B e m : Nat} {v : Value} {n : Nat} {xs : List Value} (h : w.ownsRow B e m v n xs) (hb : Below w.heap.size w w') : w'.ownsRow B e m v n xs := owns_keep h (K := fun _ => True) (Keep.all hb) fun _ _ => trivial
theorem owns_congr {w : World} {B e m : Nat} {v : Value} {n : Nat} {xs ys : List Value} (h : w.ownsRow B e m v n xs) (he : xs = ys) : w.ownsRow B e m v n ys := he ▸ h
theorem app_own {B : Nat} {w : World} {v : Value} {n m t e bytes : Nat} {z : Value} {c : Nat → Value} (ht : Tryz.prog.underlying t = some (.slice e)) (hi : (Tryz.prog.info? e).map (fun i => (i.zero, i.size, i.bytes)) = some (some z, m, bytes)) (hzs : z.cells.size = m) (hm : 0 < m) (hby : bytes ≤ 64) (A : Array Value) (hA : A = arr m (fun j => c (n * m + j))) (h1 : ∀ j, (c j).oneCell' = true)
    (ho : w.ownsRow B e m v n (arr (n * m) c).toList) (hB : B ≤ w.heap.size) (hn : n + 1 ≤ 100000) :
    ∃ g cap w', (Builtin.append_ #[t, t] t #[v, .slice (some ⟨w.heap.size, 0, none⟩) 1 1]).run Tryz.prog (w.alloc (.cells A e)) = .ok (.slice (some ⟨g, 0, none⟩) (n + 1) cap) w' ∧
      w'.ownsRow B e m (.slice (some ⟨g, 0, none⟩) (n + 1) cap) (n + 1) (arr ((n + 1) * m) c).toList ∧ Keep (fun k => v.ownBlock ≠ some k) w w' ∧ (v.ownBlock = some g ∨ g = w.heap.size + 1) := by
  obtain ⟨i0, hi0, hz0, hz1, hz2⟩ := info_parts hi
  obtain ⟨g, cap, w', hr, ho', hg, hat, hlt⟩ := run_append_lies (P := Tryz.prog) (w.alloc (.cells A e)) t t B e i0 z m bytes ht hi0 hz0 hz1 hz2 hzs hm v n _ (ho.alloc _) ⟨w.heap.size, 0, none⟩ 1 1 A.toList (by rw [hA, Array.length_toList, arr_size, Nat.one_mul])
    (World.news_of_block (heap_alloc_new _ _)) (by
      intro u hu
      rw [hA, Array.mem_toList_iff] at hu
      unfold arr at hu
      rw [Array.mem_ofFn] at hu
      obtain ⟨i, rfl⟩ := hu
      exact h1 _) (by decide) (by unfold maxLen; omega) (by
      have : (n + 1) * bytes ≤ 100000 * 64 := Nat.mul_le_mul hn hby
      omega) (by simp; omega) (w.heap.size + 1) (by simp)
  refine ⟨g, cap, w', hr, ?_, ?_, hat⟩
  · rw [hA, arr_add, ← Nat.succ_mul] at ho'
    exact ho'
  · exact ((Keep.refl _ w).alloc _).grown hg (fun k hk h => h hk)
/- a row of the call's own as a row -/
theorem owns_row {w : World} {B e m n : Nat} {v : Value} {c : Nat → Value} (h : w.ownsRow B e m v n (arr (n * m) c).toList) : Row w v m c n := by
  rcases h.2 with ⟨rfl, rfl⟩ | ⟨g, cap, cur, rfl, hb, hg, h2, h3, h4, h5⟩
  · exact Or.inl ⟨none, 0, rfl, rfl⟩
  · by_cases hn : n = 0
    · subst hn
      exact Or.inl ⟨_, cap, rfl, rfl⟩
    · refine Or.inr ⟨g, 0, cap, rfl, by omega, h2, lt_of_block hg, fun i hi => ?_⟩
      have e1 : (arr (n * m) c).toList[i]? = some (c i) := by rw [Array.getElem?_toList]; exact arr_get _ _ _ hi
      rw [← h5, List.getElem?_take, if_pos hi, Array.getElem?_toList] at e1
      rw [Nat.zero_add, cell_of_row _ _ _ _ _ _ hg]
      exact e1
/- a slice whose block, if any, is not below B -/
def Fresh (B : Nat) (v : Value) : Prop := ∀ g o n c, v = .slice (some ⟨g, o, none⟩) n c → B ≤ g
theorem owns_fresh {w : World} {B e m n : Nat} {v : Value} {xs : List Value} (h : w.ownsRow B e m v n xs) : Fresh B v := by
  rintro g o n c rfl
  exact (h.lt g rfl).1
theorem Fresh.nil (B : Nat) : Fresh B (.slice none 0 0) := fun g o n c h => by cases h
theorem alloc_below {w w' : World} {o : Obj} (h : Below (w.alloc o).heap.size (w.alloc o) w') : Below w.heap.size w w' := ((Below.refl w.heap.size w).alloc (Nat.le_refl _) o).trans (h.mono (by simp))
theorem own_lt {w : World} {B e m n g : Nat} {v : Value} {xs : List Value} (h : w.ownsRow B e m v n xs) (hg : v.ownBlock = some g) : B ≤ g ∧ g < w.heap.size := h.lt g hg
end Go.Proofs.YtlbclfponongbaaGreatDoor
