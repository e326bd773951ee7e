import Derived.Test.YtlbclfponongbaaGreatDoorO10
/- Reading a commit's body, plainly; plain regions by hand. -/
namespace Go.Proofs.YtlbclfponongbaaGreatDoor
open Go.RowKit Classical
section
variable {P : Program}
theorem wpList_valG {ops : Array Oper} {rest : List Oper} {o : Oper} {a : Act} {w : World} {Q : Exit → Act → World → Prop} (hw : Region.wanted o (yielded ops a.tmps) = true) {v : Value} {w' : World} (hr : (execOp a.eval o).run P w = .ok (.value v) w')
    (h : wpList P ops Q rest (a.put o.dst v) w') : wpList P ops Q (o :: rest) a w :=
  wpList_step fun K hK => by rw [if_pos hw]; unfold Oper.wp; rw [hr]; exact hK _ _ h
theorem wpList_valS {ops : Array Oper} {rest : List Oper} {o : Oper} {a : Act} {w : World} {Q : Exit → Act → World → Prop} {v : Value} (hw : Region.wanted o (yielded ops a.tmps) = true) (hr : (execOp a.eval o).run P w = .ok (.value v) w)
    (h : wpList P ops Q rest (a.put o.dst v) w) : wpList P ops Q (o :: rest) a w := wpList_valG hw hr h
theorem wpList_unitG {ops : Array Oper} {rest : List Oper} {o : Oper} {a : Act} {w : World} {Q : Exit → Act → World → Prop} (hw : Region.wanted o (yielded ops a.tmps) = true) {w' : World} (hr : (execOp a.eval o).run P w = .ok .skip w')
    (h : wpList P ops Q rest (a.put o.dst undef) w') : wpList P ops Q (o :: rest) a w :=
  wpList_step fun K hK => by rw [if_pos hw]; unfold Oper.wp; rw [hr]; exact hK _ _ h
theorem wpList_skipG {ops : Array Oper} {rest : List Oper} {o : Oper} {a : Act} {w : World} {Q : Exit → Act → World → Prop} (hw : Region.wanted o (yielded ops a.tmps) = false)
    (h : wpList P ops Q rest (a.put o.dst undef) w) : wpList P ops Q (o :: rest) a w :=
  wpList_step fun K hK => by rw [if_neg (by rw [hw]; decide)]; exact hK _ _ h
theorem wpList_callG {ops : Array Oper} {rest : List Oper} {o : Oper} {a : Act} {w : World} {Q : Exit → Act → World → Prop} (hw : Region.wanted o (yielded ops a.tmps) = true)
    (h : ∀ K : Act → World → Prop, (∀ a w, wpList P ops Q rest a w → K a w) → o.wp P a w K Q) : wpList P ops Q (o :: rest) a w :=
  wpList_step fun K hK => by rw [if_pos hw]; exact h K hK
theorem ex_nil {o : Oper} {a : Act} {w : World} (x : Operand) (ho : o.op = .nilCheck x) (ad : Addr) (hx : a.eval x = .pointer (some ad)) : (execOp a.eval o).run P w = .ok (.value (.pointer (some ad))) w := by
  unfold execOp
  simp only [ho, hx]
  rfl
end
/- what holds of the commit read so far: the tree, how many parents are to come, the parents -/
structure CI (l : List UInt8) (t : Nat → UInt8) (n : Nat) (ps : Nat → Nat → UInt8) (k p : Nat) (e : Int) : Prop where
  le : p ≤ l.length
  five : e ≠ 5
  four : n ≤ 4
  sound : e = 0 → l.take p = idL t ++ dg n ++ pb ps k
  full : ∀ c, IsCom l c → e = 0 ∧ same32 t c.tree ∧ n = c.n ∧ p = (idL c.tree ++ dg c.n ++ pb c.par k).length ∧ ∀ i, i < k → same32 (ps i) (c.par i)
def upI (ps : Nat → Nat → UInt8) (k : Nat) (x : Nat → UInt8) (i : Nat) : Nat → UInt8 := if i = k then x else ps i
theorem upI_same (ps : Nat → Nat → UInt8) (k : Nat) (x : Nat → UInt8) : upI ps k x k = x := by unfold upI; rw [if_pos rfl]
theorem upI_old (ps : Nat → Nat → UInt8) (k : Nat) (x : Nat → UInt8) (i : Nat) (h : i < k) : upI ps k x i = ps i := by unfold upI; rw [if_neg (by omega)]
theorem pb_up (ps : Nat → Nat → UInt8) (k : Nat) (x : Nat → UInt8) : pb (upI ps k x) (k + 1) = pb ps k ++ idL x := by
  show pb (upI ps k x) k ++ idL (upI ps k x k) = _
  rw [upI_same, pb_congr (q := ps) fun i hi => by rw [upI_old ps k x i hi]; exact fun _ _ => rfl]
theorem pc_up (ps : Nat → Nat → UInt8) (k : Nat) (x : Nat → UInt8) : arr (k * 32) (pc (upI ps k x)) = arr (k * 32) (pc ps) := arr_congr fun i hi => by
  unfold pc
  rw [upI_old ps k x _ (by omega)]
theorem com_drop {l : List UInt8} {c : Com} (h : IsCom l c) (k : Nat) (hk : k ≤ c.n) : ∃ R, l = idL c.tree ++ dg c.n ++ pb c.par k ++ R ∧ (k = c.n → R = tx c.text) ∧ (k < c.n → ∃ R2, R = idL (c.par k) ++ R2) := by
  obtain ⟨ok, hl⟩ := h
  unfold comB at hl
  by_cases e : k = c.n
  · subst e
    exact ⟨tx c.text, hl, fun _ => rfl, fun h => absurd h (by omega)⟩
  · obtain ⟨R, hR⟩ := pb_split c.par (k + 1) c.n (by omega)
    refine ⟨idL (c.par k) ++ R ++ tx c.text, ?_, fun h => absurd h e, fun _ => ⟨R ++ tx c.text, by simp⟩⟩
    rw [hl, hR]
    show idL c.tree ++ dg c.n ++ (pb c.par k ++ idL (c.par k) ++ R) ++ tx c.text = _
    simp [List.append_assoc]
theorem CI.start {l s0 : List UInt8} {p0 p1 n : Nat} {e0 e1 : Int} (h0 : rRaw 32 l 0 0 = (s0, p0, e0)) (h1 : rNum 4 l p0 e0 = (n, p1, e1)) : CI l (idOf s0) n (fun _ _ => 0) 0 p1 e1 := by
  have l0 : p0 ≤ l.length := by have := rRaw_le 32 l 0 0 (Nat.zero_le _); rw [h0] at this; exact this
  have l1 : p1 ≤ l.length := by have := rNum_le 4 l p0 e0 l0; rw [h1] at this; exact this
  have v0 : e0 ≠ 5 := by have := raw_five 32 l 0 0 (by decide); rw [h0] at this; exact this
  have v1 : e1 ≠ 5 := by have := num_five 4 l p0 e0 v0; rw [h1] at this; exact this
  have m1 : n ≤ 4 := by have := num_most (most := 4) l p0 e0 (by decide) l0; rw [h1] at this; dsimp only at this; omega
  refine ⟨l1, v1, m1, fun he => ?_, fun c hc => ?_⟩
  · subst he
    have he0 : e0 = 0 := by
      by_cases c : e0 = 0
      · exact c
      · rw [num_err c] at h1
        simp only [Prod.mk.injEq] at h1
        exact absurd h1.2.2 c
    obtain ⟨r1, r2, r3, r4, r5⟩ := raw_idL (Nat.zero_le _) h0 he0
    subst he0
    obtain ⟨u1, u2, u3, u4, u5⟩ := num_there l0 h1
    rw [u1, r2, idL_idOf _ r3]
    simp [pb]
  · obtain ⟨R, hl, -, -⟩ := com_drop hc 0 (Nat.zero_le _)
    have n4 := hc.1.1
    have hlen := congrArg List.length hl
    rw [List.length_append, List.length_append, List.length_append, idL_length] at hlen
    have d0 : l.drop 0 = idL c.tree ++ (dg c.n ++ R) := by rw [List.drop_zero, hl]; simp [pb]
    have g0 := raw_read (n := 32) d0 (Nat.zero_le _) (by rw [idL_length]; rfl)
    rw [h0] at g0
    simp only [Prod.mk.injEq] at g0
    obtain ⟨a1, a2, a3⟩ := g0
    subst a3
    have d1 : l.drop p0 = dg c.n ++ R := by
      rw [a2, drop_add, d0]; simp
    have g1 := num_read (most := 4) d1 (by omega) (by omega)
    rw [h1] at g1
    simp only [Prod.mk.injEq] at g1
    obtain ⟨b1, b2, b3⟩ := g1
    refine ⟨b3, fun i hi => by rw [a1, id_get _ i hi], b1, ?_, fun i hi => absurd hi (by omega)⟩
    rw [b2, a2]
    simp [pb]
theorem CI.step {l s3 : List UInt8} {t : Nat → UInt8} {n : Nat} {ps : Nat → Nat → UInt8} {k p p3 : Nat} {e e3 : Int} (h : CI l t n ps k p e) (hk : k < n) (h3 : rRaw 32 l p e = (s3, p3, e3)) : CI l t n (upI ps k (idOf s3)) (k + 1) p3 e3 := by
  have l3 : p3 ≤ l.length := by have := rRaw_le 32 l p e h.le; rw [h3] at this; exact this
  have v3 : e3 ≠ 5 := by have := raw_five 32 l p e h.five; rw [h3] at this; exact this
  refine ⟨l3, v3, h.four, fun he => ?_, fun c hc => ?_⟩
  · obtain ⟨r1, r2, r3, r4, r5⟩ := raw_idL h.le h3 he
    rw [r2, h.sound r1, pb_up, idL_idOf _ r3]
    simp [List.append_assoc]
  · obtain ⟨f0, f1, f2, f3, f4⟩ := h.full c hc
    obtain ⟨R, hl, -, h2⟩ := com_drop hc k (by omega)
    obtain ⟨R2, hR2⟩ := h2 (by omega)
    have hd : l.drop p = idL (c.par k) ++ R2 := by
      rw [hl, f3, List.drop_append_of_le_length (Nat.le_refl _), List.drop_length, List.nil_append, hR2]
    have g := raw_read (n := 32) hd h.le (by rw [idL_length]; rfl)
    rw [f0, g] at h3
    simp only [Prod.mk.injEq] at h3
    obtain ⟨a1, a2, a3⟩ := h3
    refine ⟨a3.symm, f1, f2, ?_, fun i hi => ?_⟩
    · rw [← a2, f3]
      show _ = (idL c.tree ++ dg c.n ++ (pb c.par k ++ idL (c.par k))).length
      simp only [List.length_append]
      omega
    · by_cases cc : i < k
      · rw [upI_old _ _ _ _ cc]; exact f4 i cc
      · rw [show i = k by omega, upI_same]
        intro j hj
        rw [← a1, id_get _ j hj]
def isCom (l : List UInt8) : Prop := ∃ c, IsCom l c
theorem CI.end {l s : List UInt8} {t : Nat → UInt8} {n : Nat} {ps : Nat → Nat → UInt8} {p p3 : Nat} {e e3 : Int} (h : CI l t n ps n p e) (h3 : rText 64 l p e = (s, p3, e3)) :
    (endOf l.length p3 e3 = 0 ∧ comOk ⟨t, n, ps, s⟩ ↔ isCom l) ∧ (endOf l.length p3 e3 = 0 → comOk ⟨t, n, ps, s⟩ → IsCom l ⟨t, n, ps, s⟩) := by
  have l3 : p3 ≤ l.length := by have := rText_le 64 l p e h.le; rw [h3] at this; exact this
  have key : endOf l.length p3 e3 = 0 → comOk ⟨t, n, ps, s⟩ → IsCom l ⟨t, n, ps, s⟩ := by
    intro h0 hok
    unfold endOf at h0
    split at h0
    · rename_i h1; exact absurd h0 h1
    · rename_i h1
      split at h0
      · omega
      · have e0 : e3 = 0 := by omega
        subst e0
        have hp : p3 = l.length := by omega
        have he0 : e = 0 := by
          by_cases c : e = 0
          · exact c
          · rw [text_err c] at h3
            simp only [Prod.mk.injEq] at h3
            exact absurd h3.2.2 c
        subst he0
        obtain ⟨u1, -, -, -, -⟩ := text_there h.le h3
        rw [hp, List.take_length, h.sound rfl] at u1
        exact ⟨hok, u1⟩
  refine ⟨⟨fun ⟨h0, hok⟩ => ⟨_, key h0 hok⟩, ?_⟩, key⟩
  rintro ⟨c, hc⟩
  obtain ⟨f0, f1, f2, f3, f4⟩ := h.full c hc
  obtain ⟨R, hl, h1, -⟩ := com_drop hc n (by omega)
  have hR := h1 f2
  have ht := hc.1.2.1
  have hd : l.drop p = tx c.text ++ [] := by
    rw [hl, f3, List.drop_append_of_le_length (Nat.le_refl _), List.drop_length, List.nil_append, hR, List.append_nil]
  have g := text_read (most := 64) hd h.le (by omega) (by omega)
  rw [f0, g] at h3
  simp only [Prod.mk.injEq] at h3
  obtain ⟨a1, a2, a3⟩ := h3
  have hlen := drop_len2 hd h.le
  rw [List.append_nil] at hlen
  refine ⟨?_, ?_⟩
  · unfold endOf
    rw [if_neg (by omega), if_neg (by omega)]
  · obtain ⟨k1, k2, k3⟩ := hc.1
    refine ⟨by show n ≤ 4; omega, by show s.length ≤ 64; rw [← a1]; exact k2, fun i j hij hj hs => ?_⟩
    have hj2 : j < n := hj
    exact k3 i j hij (by omega) fun x hx => by rw [← f4 i (by omega) x hx, show ps i x = ps j x from hs x hx, f4 j hj2 x hx]
end Go.Proofs.YtlbclfponongbaaGreatDoor
