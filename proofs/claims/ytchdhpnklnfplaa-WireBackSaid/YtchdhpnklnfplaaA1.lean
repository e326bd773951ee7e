import Derived.Test.YtchdhpnklnfplaaL1b
/- What WireBack writes and reads: plain facts; a thing's address. -/
namespace Go.Proofs.Ytchdhpnklnfplaa
open Go.RowKit
def bk (t : It) : List UInt8 := dg (clamp t.n) ++ tx t.s ++ idL t.id ++ t.s
def bks (its : Nat → It) : Nat → List UInt8
  | 0 => []
  | k + 1 => bks its k ++ bk (its k)
theorem bk_len (t : It) : (bk t).length = (dg (clamp t.n)).length + (tx t.s).length + 32 + t.s.length := by
  unfold bk
  simp only [List.length_append, idL_length]
theorem bks_le (its : Nat → It) (k : Nat) (h : ∀ i, i < k → (its i).s.length ≤ 500) : (bks its k).length ≤ 1100 * k := by
  induction k with
  | zero => exact Nat.le_refl _
  | succ k ih =>
    have h1 := ih (fun i hi => h i (by omega))
    have h2 := h k (by omega)
    have h3 := dg_six (its k).n
    have h4 := dg_six ((its k).s.length : Int)
    show (bks its k ++ bk (its k)).length ≤ _
    rw [List.length_append, bk_len, tx_len]
    omega
theorem bks_mono (its : Nat → It) (k : Nat) : ∀ m, k ≤ m → ∃ R, bks its m = bks its k ++ R
  | 0, h => ⟨[], by rw [show k = 0 by omega]; simp⟩
  | m + 1, h => by
    by_cases c : k ≤ m
    · obtain ⟨R, hR⟩ := bks_mono its k m c
      exact ⟨R ++ bk (its m), by show bks its m ++ _ = _; rw [hR, List.append_assoc]⟩
    · exact ⟨[], by rw [show k = m + 1 by omega]; simp⟩
/- the four reads of a thing -/
theorem back_reads (its : Nat → It) (k len : Nat) (hk : k < len) (hs : (its k).s.length ≤ 500) :
    ∃ p1 p2 p3, rNum 1099511627775 (bks its len) (bks its k).length 0 = (clamp (its k).n, p1, 0) ∧ rText 500 (bks its len) p1 0 = ((its k).s, p2, 0) ∧ rRaw 32 (bks its len) p2 0 = (idL (its k).id, p3, 0) ∧
      rRaw ((its k).s.length : Int) (bks its len) p3 0 = ((its k).s, (bks its (k + 1)).length, 0) ∧ (bks its k).length ≤ (bks its len).length ∧ p1 ≤ (bks its len).length ∧ p2 ≤ (bks its len).length ∧ p3 ≤ (bks its len).length := by
  obtain ⟨R, hR⟩ := bks_mono its (k + 1) len hk
  have e : bks its (k + 1) = bks its k ++ bk (its k) := rfl
  have hlen := congrArg List.length hR
  rw [e, List.length_append, List.length_append, bk_len] at hlen
  have h0 : (bks its len).drop (bks its k).length = dg (clamp (its k).n) ++ (tx (its k).s ++ (idL (its k).id ++ ((its k).s ++ R))) := by
    rw [hR, e, List.append_assoc, List.drop_append_of_le_length (Nat.le_refl _), List.drop_length, List.nil_append]
    unfold bk
    simp only [List.append_assoc]
  have c0 := clamp_le (its k).n
  have a1 := num_read (most := 1099511627775) h0 c0 (by omega)
  have h1 : (bks its len).drop ((bks its k).length + (dg (clamp (its k).n)).length) = tx (its k).s ++ (idL (its k).id ++ ((its k).s ++ R)) := by rw [drop_add, h0, List.drop_append_of_le_length (Nat.le_refl _), List.drop_length, List.nil_append]
  have a2 := text_read (most := 500) h1 (by omega) (by omega) (by omega)
  have h2 : (bks its len).drop ((bks its k).length + (dg (clamp (its k).n)).length + (tx (its k).s).length) = idL (its k).id ++ ((its k).s ++ R) := by rw [drop_add, h1, List.drop_append_of_le_length (Nat.le_refl _), List.drop_length, List.nil_append]
  have a3 := raw_read (n := 32) h2 (by omega) (by rw [idL_length]; rfl)
  have h3 : (bks its len).drop ((bks its k).length + (dg (clamp (its k).n)).length + (tx (its k).s).length + (idL (its k).id).length) = (its k).s ++ R := by rw [drop_add, h2, List.drop_append_of_le_length (Nat.le_refl _), List.drop_length, List.nil_append]
  have a4 := raw_read (n := ((its k).s.length : Int)) h3 (by rw [idL_length]; omega) rfl
  refine ⟨_, _, _, a1, a2, a3, ?_, by omega, by omega, by omega, by rw [idL_length]; omega⟩
  rw [a4, e, List.length_append, bk_len, idL_length]
  congr 2
  omega
theorem i32 : (Try.prog.info? 32).map (fun i => (i.size, i.bytes)) = some (36, 72) := by kernel_rfl
theorem run_index_item (w : World) (b o k len cap : Nat) (hk : k < len) : (Instr.indexAt 22 (.slice (some ⟨b, o, none⟩) len cap) (.int .i64 k)).run Try.prog w = .ok (.pointer (some ⟨b, o + k * 36, none⟩)) w := by
  have h32 := i32
  cases hq : Try.prog.info? 32 with
  | none => rw [hq] at h32; simp at h32
  | some i =>
    have hs : i.size = 36 := by rw [hq] at h32; simp at h32; exact h32.1
    have hk2 : (k : Int) < (len : Int) := by omega
    simp [Instr.indexAt, run_underlying Try.underlying22, sizeOf, typeInfo, hq, hs, asIntOf, hk2, Addr.add_mid]
    intro h
    omega
theorem wpList_index_item {ops : Array Oper} {rest : List Oper} {o : Oper} {a : Act} {w : World} {Q : Exit → Act → World → Prop} (hg : o.guard = none) (x y : Operand) (ho : o.op = .indexAddr 22 x y) (b p k len cap : Nat) (hx : a.eval x = .slice (some ⟨b, p, none⟩) len cap) (hy : a.eval y = .int .i64 k) (hk : k < len)
    (h : wpList Try.prog ops Q rest (a.put o.dst (.pointer (some ⟨b, p + k * 36, none⟩))) w) : wpList Try.prog ops Q (o :: rest) a w := by
  refine wpList_plain hg fun K hK => ?_
  have hr := run_index_item w b p k len cap hk
  unfold Oper.wp
  simp only [execOp, ho, hx, hy, Sem.run_bind, hr, Result.andThen_ok]
  exact hK _ _ h
theorem S_keep {b o m r : Nat} {sm : ByteArray} {F : List Value} {W w' : World} (hb : b ≠ r) (h : W.cell? ⟨b, o + m * 36 + 3, none⟩ = some (.string sm) ∧ W.rangeAt b (o + m * 36 + 4) F) (k : Keep (fun x => x ≠ r) W w') :
    w'.cell? ⟨b, o + m * 36 + 3, none⟩ = some (.string sm) ∧ w'.rangeAt b (o + m * 36 + 4) F :=
  ⟨k.cell hb h.1, fun j v hv => k.cell hb (h.2 j v hv)⟩
end Go.Proofs.Ytchdhpnklnfplaa
