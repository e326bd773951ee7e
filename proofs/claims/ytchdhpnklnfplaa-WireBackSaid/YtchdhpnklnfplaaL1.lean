import Derived.Test.YtchdhpnklnfplaaR1
import Derived.Deep.MidRow
/- The law's function of WireWrites. -/
namespace Go.Proofs.Ytchdhpnklnfplaa
open Go.RowKit
theorem ty32 : Try.prog.underlying 32 = some (.struct #[⟨"Kind", 3, 0, false, "", "", 0⟩, ⟨"N", 3, 1, false, "", "", 8⟩, ⟨"Most", 3, 2, false, "", "", 16⟩, ⟨"S", 9, 3, false, "", "", 24⟩, ⟨"Id", 30, 4, false, "", "", 40⟩]) := by kernel_rfl
theorem sz32 : (Try.prog.info? 32).map (·.size) = some 36 := by kernel_rfl
/- a thing loaded whole, and an id of the midst of a block -/
theorem wpList_load_item {ops : Array Oper} {rest : List Oper} {o : Oper} {a : Act} {w : World} {Q : Exit → Act → World → Prop} (hgd : o.guard = none) (x : Operand) (ho : o.op = .load 32 x)
    (b p : Nat) (hx : a.eval x = .pointer (some ⟨b, p, none⟩)) (t : It) (hc : ∀ j, j < 36 → w.cell? ⟨b, p + j, none⟩ = some (itc t j))
    (h : wpList Try.prog ops Q rest (a.put o.dst (.agg (arr 36 (itc t)))) w) : wpList Try.prog ops Q (o :: rest) a w := by
  refine wpList_load_mid hgd 32 x ho b p hx (arr 36 (itc t)).toList _ (fun j v hv => ?_) ty32 rfl (by rw [Array.length_toList, arr_size]; exact sz32) (by rw [Array.toArray_toList]; exact h)
  have hj : j < 36 := by
    have := (List.getElem?_eq_some_iff.1 hv).1
    rw [Array.length_toList, arr_size] at this
    exact this
  rw [Array.getElem?_toList, arr_get _ _ _ hj] at hv
  cases hv
  exact hc j hj
theorem wpList_load_mid_id {ops : Array Oper} {rest : List Oper} {o : Oper} {a : Act} {w : World} {Q : Exit → Act → World → Prop} (hgd : o.guard = none) (x : Operand) (ho : o.op = .load 30 x)
    (b p : Nat) (hx : a.eval x = .pointer (some ⟨b, p, none⟩)) (f : Nat → UInt8) (hc : ∀ j, j < 32 → w.cell? ⟨b, p + j, none⟩ = some (bv f j))
    (h : wpList Try.prog ops Q rest (a.put o.dst (.agg (arr 32 (bv f)))) w) : wpList Try.prog ops Q (o :: rest) a w := by
  refine wpList_load_mid hgd 30 x ho b p hx (arr 32 (bv f)).toList _ (fun j v hv => ?_) ty30 rfl (by rw [Array.length_toList, arr_size]; exact sz30) (by rw [Array.toArray_toList]; exact h)
  have hj : j < 32 := by
    have := (List.getElem?_eq_some_iff.1 hv).1
    rw [Array.length_toList, arr_size] at this
    exact this
  rw [Array.getElem?_toList, arr_get _ _ _ hj] at hv
  cases hv
  exact hc j hj
theorem itc_id (t : It) (j : Nat) : itc t (4 + j) = bv t.id j := by rw [Nat.add_comm]; rfl
/- what is written of a thing, and of the first k things -/
def piece (t : It) : List UInt8 := if t.kind.tmod 4 = 0 then dg (clamp t.n) else if t.kind.tmod 4 = 1 then tx t.s else if t.kind.tmod 4 = 2 then idL t.id else if t.kind.tmod 4 = 3 then t.s else []
def wrs (its : Nat → It) : Nat → List UInt8
  | 0 => []
  | k + 1 => wrs its k ++ piece (its k)
theorem dg_six (n : Int) : (dg (clamp n)).length ≤ 6 := by
  have := dg_le (clamp n) 0 (by have := clamp_le n; omega) (by omega)
  omega
theorem piece_le (t : It) (h : t.s.length ≤ 500) : (piece t).length ≤ 506 := by
  unfold piece
  split
  · have := dg_six t.n; omega
  · split
    · rw [tx_len]; have := dg_six (t.s.length : Int); omega
    · split
      · rw [idL_length]; omega
      · split
        · omega
        · simp
theorem wrs_le (its : Nat → It) (k : Nat) (h : ∀ i, i < k → (its i).s.length ≤ 500) : (wrs its k).length ≤ 506 * k := by
  induction k with
  | zero => exact Nat.le_refl _
  | succ k ih =>
    have h1 := ih (fun i hi => h i (by omega))
    have h2 := piece_le (its k) (h k (by omega))
    show (wrs its k ++ piece (its k)).length ≤ _
    rw [List.length_append]
    omega
/- in a round: the writer has l, the thing lies in block xb -/
structure Pk (B : Nat) (w0 : World) (h xb : Nat) (t : It) (l : List UInt8) (w : World) : Prop where
  keep : Keep (· < B) w0 w
  wr : Wr (fun k => k < B ∨ k = xb) w h l
  blk : Blk w xb 32 36 (itc t)
theorem Pk.below {B : Nat} {w0 : World} {h xb : Nat} {t : It} {l : List UInt8} {w w' : World} (p : Pk B w0 h xb t l w) (hb : Below w.heap.size w w') : Pk B w0 h xb t l w' :=
  ⟨p.keep.trans (Keep.all hb), p.wr.all hb, p.blk.below hb p.blk.lt⟩
theorem Pk.alloc {B : Nat} {w0 : World} {h xb : Nat} {t : It} {l : List UInt8} {w : World} (p : Pk B w0 h xb t l w) (o : Obj) : Pk B w0 h xb t l (w.alloc o) :=
  p.below ((Below.refl _ _).alloc (Nat.le_refl _) o)
theorem Pk.step {B : Nat} {w0 : World} {h xb : Nat} {t : It} {l l' : List UInt8} {w w' : World} (p : Pk B w0 h xb t l w) (hw : Wr (fun k => k < B ∨ k = xb) w' h l') (hk : Keep (fun k => k < B ∨ k = xb) w w') : Pk B w0 h xb t l' w' :=
  ⟨p.keep.trans (hk.mono fun _ hk _ => Or.inl hk), hw, hk.blk (Or.inr rfl) p.blk⟩
theorem Pk.cell {B : Nat} {w0 : World} {h xb : Nat} {t : It} {l : List UInt8} {w : World} (p : Pk B w0 h xb t l w) (j : Nat) (hj : j < 36) : w.cell? ⟨xb, j, none⟩ = some (itc t j) := p.blk.cell j hj
theorem Pk.start {B : Nat} {w0 w : World} {h : Nat} {t : It} {l : List UInt8} (hk : Keep (· < B) w0 w) (hw : Wr (· < B) w h l) : Pk B w0 h w.heap.size t l (w.alloc (.cells (arr 36 (itc t)) 32)) :=
  ⟨hk.alloc _, hw.add _, Blk.newAt _ (heap_alloc_new _ _) rfl⟩
theorem Pk.num {B : Nat} {w0 : World} {h xb : Nat} {t : It} {l : List UInt8} {w : World} (p : Pk B w0 h xb t l w) (hl : l.length ≤ 1000000) :
    Calls Try.prog 9 #[.pointer (some ⟨h, 0, none⟩), .slice (some ⟨w.heap.size, 0, none⟩) 1 1] (w.alloc (.cells #[.int .i64 t.n] 3)) fun e w' => e = .returned (.tuple #[]) ∧ Pk B w0 h xb t (l ++ dg (clamp t.n)) w' := by
  refine (num_call p.wr t.n _ rfl (by omega)).mono ?_
  rintro e w' ⟨h1, h2, h3⟩
  exact ⟨h1, p.step h2 h3⟩
theorem Pk.text {B : Nat} {w0 : World} {h xb : Nat} {t : It} {l : List UInt8} {w : World} (p : Pk B w0 h xb t l w) (hl : l.length ≤ 1000000) (hs : t.s.length ≤ 500) :
    Calls Try.prog 11 #[.pointer (some ⟨h, 0, none⟩), .slice (some ⟨w.heap.size, 0, none⟩) 1 1] (w.alloc (.cells #[.string (bs t.s)] 9)) fun e w' => e = .returned (.tuple #[]) ∧ Pk B w0 h xb t (l ++ tx t.s) w' := by
  refine (text_call p.wr t.s _ rfl (by omega)).mono ?_
  rintro e w' ⟨h1, h2, h3⟩
  exact ⟨h1, p.step h2 h3⟩
theorem Pk.raw {B : Nat} {w0 : World} {h xb : Nat} {t : It} {l : List UInt8} {w : World} (p : Pk B w0 h xb t l w) (hl : l.length ≤ 1000000) (hs : t.s.length ≤ 500) :
    Calls Try.prog 15 #[.pointer (some ⟨h, 0, none⟩), .slice (some ⟨w.heap.size, 0, none⟩) 1 1] (w.alloc (.cells #[.string (bs t.s)] 9)) fun e w' => e = .returned (.tuple #[]) ∧ Pk B w0 h xb t (l ++ t.s) w' := by
  refine (raw_call p.wr t.s _ rfl (by omega)).mono ?_
  rintro e w' ⟨h1, h2, h3⟩
  exact ⟨h1, p.step h2 h3⟩
theorem Pk.ident {B : Nat} {w0 : World} {h xb : Nat} {t : It} {l : List UInt8} {w : World} (p : Pk B w0 h xb t l w) (hl : l.length ≤ 1000000) :
    Calls Try.prog 13 #[.pointer (some ⟨h, 0, none⟩), .slice (some ⟨w.heap.size, 0, none⟩) 1 1] (w.alloc (.cells (arr 32 (bv t.id)) 30)) fun e w' => e = .returned (.tuple #[]) ∧ Pk B w0 h xb t (l ++ idL t.id) w' := by
  refine (id_call p.wr t.id _ _ rfl rfl (by omega)).mono ?_
  rintro e w' ⟨h1, h2, h3⟩
  exact ⟨h1, p.step h2 h3⟩
theorem Pk.idcells {B : Nat} {w0 : World} {h xb : Nat} {t : It} {l : List UInt8} {w : World} (p : Pk B w0 h xb t l w) : ∀ j, j < 32 → w.cell? ⟨xb, 4 + j, none⟩ = some (bv t.id j) := fun j hj => by
  rw [p.cell (4 + j) (by omega), itc_id]
end Go.Proofs.Ytchdhpnklnfplaa
