import Derived.Test.YtekeaoolodmdaaaV5m
import Derived.Test.YtekeaoolodmdaaaE0
/- What a delta's bytes say: as they are read piece by piece, with wide bounds or narrow ones. -/
namespace Go.Proofs.Ytekeaoolodmdaaa
open Go.RowKit
theorem num_five (most : Int) (l : List UInt8) (p : Nat) (e : Int) (h : e ≠ 5) : (rNum most l p e).2.2 ≠ 5 := by
  unfold rNum
  split
  · exact h
  · split
    · rcases rd_zero_err most (l.drop p) 0 0 with h2 | ⟨_, _, h2⟩
      · rename_i h3; exact absurd h2 h3
      · intro h4
        dsimp only at h4
        omega
    · simp
theorem raw_five (n : Int) (l : List UInt8) (p : Nat) (e : Int) (h : e ≠ 5) : (rRaw n l p e).2.2 ≠ 5 := by
  unfold rRaw
  split
  · exact h
  · split
    · simp
    · split <;> simp
theorem num_err {most : Int} {l : List UInt8} {p : Nat} {e : Int} (h : e ≠ 0) : rNum most l p e = (0, p, e) := by unfold rNum; rw [if_pos h]
theorem raw_err {n : Int} {l : List UInt8} {p : Nat} {e : Int} (h : e ≠ 0) : rRaw n l p e = ([], p, e) := by unfold rRaw; rw [if_pos h]
theorem rd_most {m M : Int} (h : m ≤ M) : ∀ (l : List UInt8) (k acc : Nat), rd m l k acc = if (rd M l k acc).2.2 = 0 ∧ m < ((rd M l k acc).1 : Int) then (0, 0, 4) else rd M l k acc := by
  intro l
  induction l with
  | nil => intro k acc; unfold rd; split <;> simp
  | cons b t ih =>
    intro k acc
    unfold rd
    split
    · simp
    · split
      · exact ih _ _
      · split
        · simp
        · by_cases c : 1099511627775 < acc + b.toNat % 128 * 128 ^ k ∨ M < ((acc + b.toNat % 128 * 128 ^ k : Nat) : Int)
          · have c2 : 1099511627775 < acc + b.toNat % 128 * 128 ^ k ∨ m < ((acc + b.toNat % 128 * 128 ^ k : Nat) : Int) := by omega
            rw [if_pos c, if_pos c2]
            simp
          · rw [if_neg c]
            by_cases c3 : m < ((acc + b.toNat % 128 * 128 ^ k : Nat) : Int)
            · rw [if_pos (Or.inr c3), if_pos ⟨rfl, c3⟩]
            · rw [if_neg (by omega), if_neg (fun h => c3 h.2)]
theorem num_most {m M : Int} (h : m ≤ M) (l : List UInt8) (p : Nat) : rNum m l p 0 = if (rNum M l p 0).2.2 = 0 ∧ m < ((rNum M l p 0).1 : Int) then (0, p, 4) else rNum M l p 0 := by
  unfold rNum
  rw [rd_most h]
  generalize rd M (l.drop p) 0 0 = A
  by_cases c : A.2.2 = 0
  · by_cases c2 : m < (A.1 : Int) <;> simp [c, c2]
  · simp [c]
theorem num_value (m : Int) (l : List UInt8) (p : Nat) (h0 : 0 ≤ m) : ((rNum m l p 0).1 : Int) ≤ m ∧ (rNum m l p 0).1 ≤ 1099511627775 := by
  unfold rNum
  rw [if_neg (by simp)]
  by_cases c : (rd m (l.drop p) 0 0).2.2 = 0
  · rw [if_neg (by simp [c])]
    obtain ⟨_, _, _, _, _, h4, h5, _⟩ := rd_one m (l.drop p) 0 0 (rd m (l.drop p) 0 0).1 (rd m (l.drop p) 0 0).2.1 (by rw [← c])
    exact ⟨h5, h4⟩
  · rw [if_pos c]
    exact ⟨h0, by simp⟩
theorem num_moves {m : Int} {l : List UInt8} {p : Nat} (h : (rNum m l p 0).2.2 = 0) : p < (rNum m l p 0).2.1 := by
  revert h
  unfold rNum
  rw [if_neg (by simp)]
  by_cases c : (rd m (l.drop p) 0 0).2.2 = 0
  · rw [if_neg (by simp [c])]
    intro _
    obtain ⟨q, _, _, _, h3, _, _, _⟩ := rd_one m (l.drop p) 0 0 (rd m (l.drop p) 0 0).1 (rd m (l.drop p) 0 0).2.1 (by rw [← c])
    have := dg_pos q
    show p < p + _
    omega
  · rw [if_pos c]
    intro h; exact absurd h c
theorem raw_size (n : Nat) (l : List UInt8) (p : Nat) (h : (rRaw n l p 0).2.2 = 0) : (rRaw n l p 0).1.length = n ∧ (rRaw n l p 0).2.1 = p + n := by
  revert h
  unfold rRaw
  rw [if_neg (by simp), if_neg (by omega)]
  split
  · intro h; simp at h
  · intro _
    refine ⟨?_, rfl⟩
    show ((l.drop p).take ((n : Int)).toNat).length = n
    rw [List.length_take, List.length_drop]; omega
/- a piece read: the piece, the place, the error; m1 bounds its head, m2 its place -/
def rpz (m1 m2 : Int) (d : List UInt8) (p : Nat) (e : Int) : Pz × Nat × Int :=
  if (rNum m1 d p e).1 % 2 = 0 then (⟨0, 0, (rRaw ((rNum m1 d p e).1 / 2 : Nat) d (rNum m1 d p e).2.1 (rNum m1 d p e).2.2).1⟩, (rRaw ((rNum m1 d p e).1 / 2 : Nat) d (rNum m1 d p e).2.1 (rNum m1 d p e).2.2).2)
  else (⟨(rNum m2 d (rNum m1 d p e).2.1 (rNum m1 d p e).2.2).1, (rNum m1 d p e).1 / 2, []⟩, (rNum m2 d (rNum m1 d p e).2.1 (rNum m1 d p e).2.2).2)
theorem rpz_five (m1 m2 : Int) (d : List UInt8) (p : Nat) (e : Int) (h : e ≠ 5) : (rpz m1 m2 d p e).2.2 ≠ 5 := by
  unfold rpz
  split
  · exact raw_five _ _ _ _ (num_five _ _ _ _ h)
  · exact num_five _ _ _ _ (num_five _ _ _ _ h)
theorem rpz_le (m1 m2 : Int) (d : List UInt8) (p : Nat) (e : Int) (h : p ≤ d.length) : (rpz m1 m2 d p e).2.1 ≤ d.length := by
  unfold rpz
  split
  · exact rRaw_le _ _ _ _ (rNum_le _ _ _ _ h)
  · exact rNum_le _ _ _ _ (rNum_le _ _ _ _ h)
theorem rpz_moves {m1 m2 : Int} {d : List UInt8} {p : Nat} (h : (rpz m1 m2 d p 0).2.2 = 0) : p < (rpz m1 m2 d p 0).2.1 := by
  revert h
  unfold rpz
  by_cases e : (rNum m1 d p 0).2.2 = 0
  · have h1 := num_moves e
    rw [e]
    split
    · intro h
      have := (raw_size _ _ _ h).2
      show p < (rRaw _ _ _ _).2.1
      omega
    · intro h
      have := num_moves h
      show p < (rNum _ _ _ _).2.1
      omega
  · split
    · rw [raw_err e]; intro h; exact absurd h e
    · rw [num_err e]; intro h; exact absurd h e
def big : Int := 1099511627775
/- narrow bounds come to the same as wide ones, or what is read wide isn't right -/
theorem rpz_small {b : Nat} (hb : b ≤ 4099) (d : List UInt8) (p : Nat) : ((rpz 8199 4099 d p 0).2.2 = 0 → rpz big big d p 0 = rpz 8199 4099 d p 0) ∧ ((rpz 8199 4099 d p 0).2.2 ≠ 0 → (rpz big big d p 0).2.2 = 0 → ¬ good b (rpz big big d p 0).1) := by
  have h1 := num_most (m := 8199) (M := big) (by decide) d p
  by_cases e1 : (rNum big d p 0).2.2 = 0
  · by_cases k1 : (8199 : Int) < ((rNum big d p 0).1 : Int)
    · rw [if_pos ⟨e1, k1⟩] at h1
      have hx : rpz 8199 4099 d p 0 = (⟨0, 0, []⟩, p, 4) := by
        unfold rpz
        rw [h1]
        simp [rRaw]
      rw [hx]
      refine ⟨fun h => by simp at h, fun _ => ?_⟩
      unfold rpz
      rw [e1]
      by_cases k2 : (rNum big d p 0).1 % 2 = 0
      · rw [if_pos k2]
        intro h
        have := (raw_size _ _ _ h).1
        unfold good
        rw [if_pos ⟨rfl, rfl⟩]
        intro hg
        have hg2 : (rRaw ((rNum big d p 0).1 / 2 : Nat) d (rNum big d p 0).2.1 0).1.length ≤ 4099 := hg.2
        omega
      · rw [if_neg k2]
        intro _
        unfold good
        rw [if_neg (fun h => by have h2 : (rNum big d p 0).1 / 2 = 0 := h.2; omega)]
        intro hg
        have hg2 : (rNum big d p 0).1 / 2 ≤ 4099 := hg.2.2.1
        omega
    · rw [if_neg (fun h => k1 h.2)] at h1
      by_cases k2 : (rNum big d p 0).1 % 2 = 0
      · have hx : rpz big big d p 0 = rpz 8199 4099 d p 0 := by
          unfold rpz
          rw [h1, if_pos k2, if_pos k2]
        rw [hx]
        exact ⟨fun _ => rfl, fun h h2 => absurd h2 h⟩
      · have h2 := num_most (m := 4099) (M := big) (by decide) d (rNum big d p 0).2.1
        unfold rpz
        rw [h1, if_neg k2, if_neg k2, e1]
        by_cases c : (rNum big d (rNum big d p 0).2.1 0).2.2 = 0 ∧ (4099 : Int) < ((rNum big d (rNum big d p 0).2.1 0).1 : Int)
        · rw [if_pos c] at h2
          rw [h2]
          refine ⟨fun h => by simp at h, fun _ _ => ?_⟩
          have c2 := c.2
          unfold good
          rw [if_neg (fun h => by have h3 : (rNum big d (rNum big d p 0).2.1 0).1 = 0 := h.1; omega)]
          intro hg
          have hg2 : (rNum big d (rNum big d p 0).2.1 0).1 + (rNum big d p 0).1 / 2 ≤ b := hg.2.2.2
          omega
        · rw [if_neg c] at h2
          rw [h2]
          exact ⟨fun _ => rfl, fun h h3 => absurd h3 h⟩
  · rw [if_neg (fun h => e1 h.1)] at h1
    have hx : ∀ m, (rpz big m d p 0).2.2 ≠ 0 := by
      intro m
      unfold rpz
      split
      · rw [raw_err e1]; exact e1
      · rw [num_err e1]; exact e1
    have hy : rpz 8199 4099 d p 0 = rpz big 4099 d p 0 := by unfold rpz; rw [h1]
    rw [hy]
    exact ⟨fun h => absurd h (hx _), fun _ h => absurd h (hx _)⟩
/- the pieces that the bytes from a place on say, for a base of b bytes and a text of 'left' ones -/
def prs (b : Nat) (d : List UInt8) (p left : Nat) : Option (List Pz) :=
  if _h : p < d.length then
    if _h2 : (rpz big big d p 0).2.2 = 0 ∧ good b (rpz big big d p 0).1 ∧ sz (rpz big big d p 0).1 ≤ left ∧ p < (rpz big big d p 0).2.1 then
      (prs b d (rpz big big d p 0).2.1 (left - sz (rpz big big d p 0).1)).map ((rpz big big d p 0).1 :: ·)
    else none
  else if left = 0 then some [] else none
termination_by d.length - p
decreasing_by omega
theorem prs_end {b : Nat} {d : List UInt8} {p left : Nat} (h : d.length ≤ p) : prs b d p left = if left = 0 then some [] else none := by
  rw [prs, dif_neg (by omega)]
theorem prs_bad {b : Nat} {d : List UInt8} {p left : Nat} (h : p < d.length) (hb : ¬ ((rpz big big d p 0).2.2 = 0 ∧ good b (rpz big big d p 0).1 ∧ sz (rpz big big d p 0).1 ≤ left)) : prs b d p left = none := by
  rw [prs, dif_pos h, dif_neg (fun h => hb ⟨h.1, h.2.1, h.2.2.1⟩)]
theorem prs_more {b : Nat} {d : List UInt8} {p left : Nat} (h : p < d.length) (h0 : (rpz big big d p 0).2.2 = 0) (hg : good b (rpz big big d p 0).1) (hl : sz (rpz big big d p 0).1 ≤ left) :
    prs b d p left = (prs b d (rpz big big d p 0).2.1 (left - sz (rpz big big d p 0).1)).map ((rpz big big d p 0).1 :: ·) := by
  rw [prs, dif_pos h, dif_pos ⟨h0, hg, hl, rpz_moves h0⟩]
theorem prs_good {b : Nat} {d : List UInt8} : ∀ (k p left : Nat) (l : List Pz), d.length - p ≤ k → prs b d p left = some l → (∀ x ∈ l, good b x) ∧ szs l = left := by
  intro k
  induction k with
  | zero =>
    intro p left l hk h
    rw [prs_end (by omega)] at h
    split at h
    · rename_i h0
      cases h
      exact ⟨fun x hx => by simp at hx, by rw [h0]; rfl⟩
    · cases h
  | succ k ih =>
    intro p left l hk h
    by_cases hp : p < d.length
    · by_cases hb : (rpz big big d p 0).2.2 = 0 ∧ good b (rpz big big d p 0).1 ∧ sz (rpz big big d p 0).1 ≤ left
      · rw [prs_more hp hb.1 hb.2.1 hb.2.2] at h
        have hm := rpz_moves hb.1
        cases hq : prs b d (rpz big big d p 0).2.1 (left - sz (rpz big big d p 0).1) with
        | none => rw [hq] at h; cases h
        | some m =>
          rw [hq] at h
          cases h
          obtain ⟨i1, i2⟩ := ih _ _ m (by omega) hq
          refine ⟨fun x hx => ?_, ?_⟩
          · rcases List.mem_cons.1 hx with rfl | hx
            · exact hb.2.1
            · exact i1 x hx
          · rw [szs_cons, i2]; omega
      · rw [prs_bad hp hb] at h; cases h
    · rw [prs_end (by omega)] at h
      split at h
      · rename_i h0
        cases h
        exact ⟨fun x hx => by simp at hx, by rw [h0]; rfl⟩
      · cases h
/- where the program stands: l is read, 'left' bytes are left -/
def IP (R : Option (List Pz)) (b : Nat) (d : List UInt8) (l : List Pz) (p : Nat) (e : Int) (left : Nat) : Prop := if e = 0 then R = (prs b d p left).map (l ++ ·) else R = none
theorem IP.start (b : Nat) (d : List UInt8) (p left : Nat) : IP (prs b d p left) b d [] p 0 left := by
  unfold IP
  rw [if_pos rfl]
  cases prs b d p left <;> simp
theorem map_snoc (o : Option (List Pz)) (l : List Pz) (x : Pz) : (o.map (x :: ·)).map (l ++ ·) = o.map ((l ++ [x]) ++ ·) := by
  cases o <;> simp
theorem IP.step {R : Option (List Pz)} {b : Nat} {d : List UInt8} {l : List Pz} {p left p' : Nat} {e' : Int} {x : Pz} (h : IP R b d l p 0 left) (hp : p < d.length) (hx : rpz big big d p 0 = (x, p', e')) (hg : good b x) (hl : sz x ≤ left) : IP R b d (l ++ [x]) p' e' (left - sz x) := by
  unfold IP at h ⊢
  rw [if_pos rfl] at h
  by_cases he : e' = 0
  · rw [if_pos he, h, prs_more hp (by rw [hx]; exact he) (by rw [hx]; exact hg) (by rw [hx]; exact hl), hx, map_snoc]
  · rw [if_neg he, h, prs_bad hp (by rw [hx]; exact fun h => he h.1)]; rfl
theorem IP.bad {R : Option (List Pz)} {b : Nat} {d : List UInt8} {l : List Pz} {p left p' : Nat} {e' : Int} {x : Pz} (h : IP R b d l p 0 left) (hp : p < d.length) (hx : rpz big big d p 0 = (x, p', e')) (hn : ¬ (good b x ∧ sz x ≤ left)) : R = none := by
  unfold IP at h
  rw [if_pos rfl] at h
  rw [h, prs_bad hp (by rw [hx]; exact fun h => hn h.2)]; rfl
theorem IP.fin {R : Option (List Pz)} {b : Nat} {d : List UInt8} {l : List Pz} {p left : Nat} (h : IP R b d l p 0 left) (hp : d.length ≤ p) : R = if left = 0 then some l else none := by
  unfold IP at h
  rw [if_pos rfl] at h
  rw [h, prs_end hp]
  split <;> simp
theorem IP.err {R : Option (List Pz)} {b : Nat} {d : List UInt8} {l : List Pz} {p left : Nat} {e : Int} (h : IP R b d l p e left) (he : e ≠ 0) : R = none := by
  unfold IP at h
  rw [if_neg he] at h
  exact h
/- where the reference stands: l is read, right or not -/
def IQ (R : Option (List Pz)) (b : Nat) (d : List UInt8) (many : Nat) (l : List Pz) (p : Nat) (e : Int) : Prop :=
  if e = 0 then R = (if (∀ x ∈ l, good b x) ∧ szs l ≤ many then (prs b d p (many - szs l)).map (l ++ ·) else none) else R = none
theorem IQ.start (b : Nat) (d : List UInt8) (p many : Nat) : IQ (prs b d p many) b d many [] p 0 := by
  unfold IQ
  rw [if_pos rfl, if_pos ⟨fun x hx => by simp at hx, by simp [szs]⟩]
  show _ = (prs b d p (many - 0)).map _
  rw [Nat.sub_zero]
  cases prs b d p many <;> simp
theorem IQ.step {R : Option (List Pz)} {b many : Nat} {d : List UInt8} {l : List Pz} {p p' : Nat} {e' : Int} {x : Pz} (hb : b ≤ 4099) (h : IQ R b d many l p 0) (hp : p < d.length) (hx : rpz 8199 4099 d p 0 = (x, p', e')) : IQ R b d many (l ++ [x]) p' e' := by
  obtain ⟨s1, s2⟩ := rpz_small hb d p
  rw [hx] at s1 s2
  unfold IQ at h ⊢
  rw [if_pos rfl] at h
  by_cases he : e' = 0
  · have s3 := s1 he
    rw [if_pos he, h]
    by_cases c : (∀ y ∈ l ++ [x], good b y) ∧ szs (l ++ [x]) ≤ many
    · have c1 : (∀ y ∈ l, good b y) ∧ szs l ≤ many := ⟨fun y hy => c.1 y (by simp [hy]), by have := c.2; rw [szs_snoc] at this; omega⟩
      have c2 : good b x := c.1 x (by simp)
      have c3 := c.2
      rw [szs_snoc] at c3
      rw [if_pos c1, if_pos c, prs_more hp (by rw [s3]; exact he) (by rw [s3]; exact c2) (by rw [s3]; show sz x ≤ _; omega), s3, map_snoc, szs_snoc, Nat.sub_sub]
    · rw [if_neg c]
      by_cases c1 : (∀ y ∈ l, good b y) ∧ szs l ≤ many
      · rw [if_pos c1, prs_bad hp]
        · rfl
        · rw [s3]
          rintro ⟨-, g1, g2⟩
          apply c
          refine ⟨fun y hy => ?_, ?_⟩
          · rcases List.mem_append.1 hy with hy | hy
            · exact c1.1 y hy
            · simp only [List.mem_singleton] at hy
              subst hy; exact g1
          · rw [szs_snoc]
            have g3 : sz x ≤ many - szs l := g2
            have := c1.2
            omega
      · rw [if_neg c1]
  · rw [if_neg he, h]
    by_cases c1 : (∀ y ∈ l, good b y) ∧ szs l ≤ many
    · rw [if_pos c1, prs_bad hp]
      · rfl
      · rintro ⟨g0, g1, -⟩
        exact s2 he g0 g1
    · rw [if_neg c1]
theorem IQ.fin {R : Option (List Pz)} {b many : Nat} {d : List UInt8} {l : List Pz} {p : Nat} {e : Int} (h : IQ R b d many l p e) (hp : ¬ (e = 0 ∧ p < d.length)) : R = if e = 0 ∧ (∀ x ∈ l, good b x) ∧ szs l = many then some l else none := by
  unfold IQ at h
  by_cases he : e = 0
  · rw [if_pos he] at h
    rw [h, prs_end (by omega)]
    by_cases c : (∀ x ∈ l, good b x) ∧ szs l = many
    · rw [if_pos ⟨c.1, by omega⟩, if_pos (by omega), if_pos ⟨he, c⟩]; simp
    · rw [if_neg (show ¬ (e = 0 ∧ _) from fun h => c h.2)]
      split
      · rename_i c1
        rw [if_neg (fun h0 => c ⟨c1.1, by omega⟩)]; rfl
      · rfl
  · rw [if_neg he] at h
    rw [if_neg (fun h => he h.1)]
    exact h
/- all of it -/
def dRead (d : List UInt8) : Option (Nat × List Pz) :=
  if (rNum 4099 d (rNum 4099 d 0 0).2.1 (rNum 4099 d 0 0).2.2).2.2 = 0 then
    (prs (rNum 4099 d 0 0).1 d (rNum 4099 d (rNum 4099 d 0 0).2.1 (rNum 4099 d 0 0).2.2).2.1 (rNum 4099 d (rNum 4099 d 0 0).2.1 (rNum 4099 d 0 0).2.2).1).map (fun l => ((rNum 4099 d 0 0).1, l))
  else none
theorem dRead_good {d : List UInt8} {b : Nat} {l : List Pz} (h : dRead d = some (b, l)) : b ≤ 4099 ∧ (∀ x ∈ l, good b x) ∧ szs l ≤ 4099 := by
  unfold dRead at h
  split at h
  · rename_i h0
    have e1 : (rNum 4099 d 0 0).2.2 = 0 := by
      by_cases c : (rNum 4099 d 0 0).2.2 = 0
      · exact c
      · rw [num_err c] at h0; exact absurd h0 c
    have v1 := (num_value 4099 d 0 (by decide)).1
    have v2 := (num_value 4099 d (rNum 4099 d 0 0).2.1 (by decide)).1
    rw [e1] at h
    generalize rNum 4099 d 0 0 = A at *
    generalize rNum 4099 d A.2.1 0 = C at *
    cases hq : prs A.1 d C.2.1 C.1 with
    | none => rw [hq] at h; cases h
    | some m =>
      rw [hq] at h
      simp only [Option.map_some, Option.some.injEq, Prod.mk.injEq] at h
      obtain ⟨rfl, rfl⟩ := h
      obtain ⟨g1, g2⟩ := prs_good _ _ _ _ (Nat.le_refl _) hq
      exact ⟨by omega, g1, by omega⟩
  · cases h
/- what was written is read -/
theorem num_of {most : Int} {d rest : List UInt8} {p n : Nat} (h : d.drop p = dg n ++ rest) (h1 : n ≤ 1099511627775) (h2 : (n : Int) ≤ most) : rNum most d p 0 = (n, p + (dg n).length, 0) := by
  unfold rNum
  rw [if_neg (by simp), h]
  have := rd_dg most rest n 0 0 (by omega) (by omega) (by simpa using h2) (Or.inr rfl)
  rw [this]
  simp
theorem drop_len {d a rest : List UInt8} {p : Nat} (h : d.drop p = a ++ rest) : d.drop (p + a.length) = rest := by
  rw [← List.drop_drop, h, List.drop_append_of_le_length (Nat.le_refl _), List.drop_length, List.nil_append]
theorem rpz_of {b : Nat} {d rest : List UInt8} {p : Nat} {x : Pz} (hb : b ≤ 4099) (hg : good b x) (hz : x.raw ∨ x.t = []) (h0 : x.raw → x = ⟨0, 0, x.t⟩) (h : d.drop p = wz x ++ rest) : rpz big big d p 0 = (x, p + (wz x).length, 0) := by
  unfold wz at h ⊢
  unfold good at hg
  by_cases hr : x.raw
  · rw [if_pos hr] at h hg ⊢
    rw [List.append_assoc] at h
    have n1 := num_of (most := big) h (by omega) (by unfold big; omega)
    have hd := drop_len h
    unfold rpz
    rw [n1]
    dsimp only
    rw [if_pos (by omega), show 2 * x.t.length / 2 = x.t.length by omega]
    have hlen : (d.drop (p + (dg (2 * x.t.length)).length)).length = x.t.length + rest.length := by rw [hd, List.length_append]
    rw [List.length_drop] at hlen
    have h2 : rRaw (x.t.length : Int) d (p + (dg (2 * x.t.length)).length) 0 = (x.t, p + (dg (2 * x.t.length)).length + x.t.length, 0) := by
      unfold rRaw
      rw [if_neg (by simp), if_neg (by omega), if_neg (by omega), hd]
      simp
    rw [h2]
    have := h0 hr
    rw [List.length_append, ← Nat.add_assoc]
    exact congrArg (fun y => (y, p + (dg (2 * x.t.length)).length + x.t.length, (0 : Int))) this.symm
  · rw [if_neg hr] at h hg ⊢
    rw [List.append_assoc] at h
    have n1 := num_of (most := big) h (by omega) (by unfold big; omega)
    have hd := drop_len h
    have n2 := num_of (most := big) hd (by omega) (by unfold big; omega)
    unfold rpz
    rw [n1]
    dsimp only
    rw [if_neg (by omega), n2, show (2 * x.n + 1) / 2 = x.n by omega, List.length_append, ← Nat.add_assoc]
    obtain ⟨xp, xn, xt⟩ := x
    have : xt = [] := hg.1
    subst this
    rfl
theorem prs_wz {b : Nat} (hb : b ≤ 4099) (d : List UInt8) : ∀ (l : List Pz) (p : Nat), (∀ x ∈ l, good b x) → p ≤ d.length → d.drop p = wzs l → prs b d p (szs l) = some l := by
  intro l
  induction l with
  | nil =>
    intro p _ hp h
    have : (d.drop p).length = 0 := by rw [h]; rfl
    rw [List.length_drop] at this
    rw [prs_end (by omega)]; rfl
  | cons x l ih =>
    intro p hg hp h
    rw [wzs_cons] at h
    have hx := hg x (by simp)
    have hr : x.raw → x = ⟨0, 0, x.t⟩ := by
      obtain ⟨xp, xn, xt⟩ := x
      rintro ⟨h1, h2⟩
      have h1 : xp = 0 := h1
      have h2 : xn = 0 := h2
      subst h1 h2; rfl
    have h2 : x.raw ∨ x.t = [] := by
      by_cases c : x.raw
      · exact Or.inl c
      · unfold good at hx; rw [if_neg c] at hx; exact Or.inr hx.1
    have r1 := rpz_of hb hx h2 hr h
    have hw : 0 < (wz x).length := by
      unfold wz
      split
      · have := dg_pos (2 * x.t.length); rw [List.length_append]; omega
      · have := dg_pos (2 * x.n + 1); rw [List.length_append]; omega
    have hl : (d.drop p).length = (wz x).length + (wzs l).length := by rw [h, List.length_append]
    rw [List.length_drop] at hl
    have r2 := ih (p + (wz x).length) (fun y hy => hg y (by simp [hy])) (by omega) (drop_len h)
    rw [prs_more (by omega) (by rw [r1]) (by rw [r1]; exact hx) (by rw [r1, szs_cons]; show sz x ≤ _; omega), r1, szs_cons]
    show (prs b d (p + (wz x).length) (sz x + szs l - sz x)).map _ = _
    rw [Nat.add_sub_cancel_left, r2]; rfl
def dBytes (b : Nat) (l : List Pz) : List UInt8 := dg b ++ dg (szs l) ++ wzs l
theorem dRead_back {b : Nat} {l : List Pz} (hb : b ≤ 4099) (hg : ∀ x ∈ l, good b x) (hs : szs l ≤ 4099) : dRead (dBytes b l) = some (b, l) := by
  have h : (dBytes b l).drop 0 = dg b ++ (dg (szs l) ++ wzs l) := by unfold dBytes; rw [List.drop_zero, List.append_assoc]
  have n1 := num_of (most := 4099) h (by omega) (by omega)
  have hd := drop_len h
  have n2 := num_of (most := 4099) hd (by omega) (by omega)
  have hd2 := drop_len hd
  unfold dRead
  rw [n1]
  dsimp only
  rw [n2]
  dsimp only
  have hl : ((dBytes b l)).length = (dg b).length + (dg (szs l)).length + (wzs l).length := by unfold dBytes; simp [Nat.add_assoc]
  rw [if_pos rfl, prs_wz hb _ l _ hg (by omega) hd2]; rfl
end Go.Proofs.Ytekeaoolodmdaaa
