import Derived.Test.YtlbclfponongbaaO30
/- One commit of one body; the entries of a tree, one by one. -/
namespace Go.Proofs.Ytlbclfponongbaa
open Go.RowKit Classical
theorem dg_four {n : Nat} (h : n ≤ 64) : dg n = [UInt8.ofNat n] := dg_low (by omega)
theorem ofNat_inj {a b : Nat} (ha : a < 256) (hb : b < 256) (h : UInt8.ofNat a = UInt8.ofNat b) : a = b := by
  have := congrArg UInt8.toNat h
  rw [UInt8.toNat_ofNat', UInt8.toNat_ofNat'] at this
  omega
theorem pb_inj {p q : Nat → Nat → UInt8} : ∀ {n : Nat}, pb p n = pb q n → ∀ i, i < n → same32 (p i) (q i)
  | 0, _, i, hi => absurd hi (by omega)
  | n + 1, h, i, hi => by
    have h2 : pb p n ++ idL (p n) = pb q n ++ idL (q n) := h
    obtain ⟨a, b⟩ := List.append_inj h2 (by rw [pb_len, pb_len])
    by_cases c : i = n
    · rw [c]; exact idL_inj b
    · exact pb_inj a i (by omega)
theorem com_one {l : List UInt8} {c d : Com} (h : IsCom l c) (g : IsCom l d) : sameC c d := by
  obtain ⟨hc, h1⟩ := h
  obtain ⟨hd, h2⟩ := g
  have e : comB c = comB d := h1.symm.trans h2
  have n4 := hc.1
  have m4 := hd.1
  have t4 := hc.2.1
  have u4 := hd.2.1
  unfold comB tx at e
  rw [dg_four (by omega), dg_four (n := d.n) (by omega), clamp_small _ (by omega), clamp_small d.text.length (by omega), dg_four (by omega), dg_four (n := d.text.length) (by omega)] at e
  simp only [List.append_assoc] at e
  obtain ⟨e1, e2⟩ := List.append_inj e (by rw [idL_length, idL_length])
  simp only [List.cons_append, List.nil_append, List.cons.injEq] at e2
  have en := ofNat_inj (by omega) (by omega) e2.1
  obtain ⟨e3, e4⟩ := List.append_inj e2.2 (by rw [pb_len, pb_len, en])
  simp only [List.cons.injEq] at e4
  refine ⟨idL_inj e1, e4.2, en, ?_⟩
  rw [← en] at e3
  exact pb_inj e3
theorem member {es gs fs : Nat → Ent} {n : Nat} (hp : PermE es gs n) (he : ∀ i, i < n → eqE (gs i) (fs i)) (j : Nat) (hj : j < n) : ∃ x, x < n ∧ eqE (fs x) (es j) := by
  have h : es j ∈ lst gs n := hp.mem_iff.1 (by unfold lst; exact List.mem_map.2 ⟨j, List.mem_range.2 hj, rfl⟩)
  obtain ⟨x, hx, e⟩ := lst_mem h
  refine ⟨x, hx, ?_⟩
  have := he x hx
  rw [← e]
  exact ⟨this.1.symm, this.2.1.symm, fun i hi => (this.2.2 i hi).symm⟩
theorem not_ge {fs : Nat → Ent} {n m : Nat} (h : entsOk fs n) (hm : m + 1 < n) : Op.bytesLess (bs (fs m).name).toList (bs (fs (m + 1)).name).toList = true := by
  rw [toList_bs, toList_bs]; exact h.2.2 m hm
structure Tl (w0 : World) (z : Nat) (f : Nat → Value) (w : World) : Prop where
  keep : Below w0.heap.size w0 w
  blk : Blk w z 67 34 f
theorem Tl.step {w0 : World} {z : Nat} {f : Nat → Value} {w w' : World} (h : Tl w0 z f w) (hb : Below w.heap.size w w') : Tl w0 z f w' := ⟨h.keep.trans (hb.mono h.keep.size), h.blk.below hb h.blk.lt⟩
theorem Tl.alloc {w0 : World} {z : Nat} {f : Nat → Value} {w : World} (h : Tl w0 z f w) (o : Obj) : Tl w0 z f (w.alloc o) := h.step ((Below.refl _ _).alloc (Nat.le_refl _) o)
theorem Tl.start (w : World) (f : Nat → Value) : Tl w w.heap.size f (w.alloc (.cells (arr 34 f) 67)) := ⟨(Below.refl _ _).alloc (Nat.le_refl _) _, Blk.newAt _ (heap_alloc_new _ _) rfl⟩
theorem tree_obj {gs : Nat → Ent} {n : Nat} (h : entsOk gs n) : objOk 2 (tb gs n) := by
  have h1 := h.1
  have h2 := tb_le gs n fun i hi => (h.2.1 i hi).1.2.1
  exact ⟨by omega, Or.inr (Or.inl ⟨rfl, gs, n, h, rfl⟩)⟩
theorem com_obj {c : Com} (h : comOk c) : objOk 3 (comB c) := ⟨by have := comB_len c h; omega, Or.inr (Or.inr ⟨rfl, c, h, rfl⟩)⟩
end Go.Proofs.Ytlbclfponongbaa
