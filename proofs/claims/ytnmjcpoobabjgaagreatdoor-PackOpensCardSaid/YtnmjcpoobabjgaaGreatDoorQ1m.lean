import Derived.Test.YtnmjcpoobabjgaaGreatDoorU0m
set_option linter.unusedVariables false
set_option linter.unusedSimpArgs false
/- The reference's reader: bytes, its end. -/
namespace Go.Proofs.YtnmjcpoobabjgaaGreatDoor
open Go.RowKit
/- the reader in block r reads l, stands at 'at', and has the error e -/
def Rq (w : World) (r : Nat) (l : List UInt8) (p : Nat) (e : Int) : Prop := w.heap[r]? = some (.cells #[.string (bs l), .int .i64 p, .int .i64 e] 108 (0, 0))
theorem Rq.keep {K : Nat → Prop} {w w' : World} {r : Nat} {l p e} (h : Rq w r l p e) (hk : Keep K w w') (hr : K r) : Rq w' r l p e := hk.at hr h
theorem Rq.lt {w : World} {r : Nat} {l p e} (h : Rq w r l p e) : r < w.heap.size := lt_of_block h
theorem Rq.cells {w : World} {r : Nat} {l p e} (h : Rq w r l p e) : w.cell? ⟨r, 0, none⟩ = some (.string (bs l)) ∧ w.cell? ⟨r, 1, none⟩ = some (.int .i64 p) ∧ w.cell? ⟨r, 2, none⟩ = some (.int .i64 e) ∧
    w.frozen? ⟨r, 1, none⟩ = false ∧ w.frozen? ⟨r, 2, none⟩ = false :=
  ⟨cell_of_row _ _ _ _ _ _ h, cell_of_row _ _ _ _ _ _ h, cell_of_row _ _ _ _ _ _ h, frozen_of_row _ _ _ _ _ h, frozen_of_row _ _ _ _ _ h⟩
theorem Rq.setAt {w : World} {r : Nat} {l p e} (h : Rq w r l p e) (q : Nat) : Rq (w.setCell ⟨r, 1, none⟩ (.int .i64 q)) r l q e := by
  unfold Rq at *
  rw [heap_setCell_same w r 1 _ 108 _ h]; rfl
theorem Rq.setErr {w : World} {r : Nat} {l p e} (h : Rq w r l p e) (q : Int) : Rq (w.setCell ⟨r, 2, none⟩ (.int .i64 q)) r l p q := by
  unfold Rq at *
  rw [heap_setCell_same w r 2 _ 108 _ h]; rfl
set_option maxHeartbeats 400000 in
set_option maxRecDepth 100000 in
theorem qraw_any {w : World} {r : Nat} {l p e} (n : Int) (h : Rq w r l p e) (hp : p ≤ l.length) (hl : l.length ≤ 281474976710656) :
    Calls Tryz.prog 77 #[.pointer (some ⟨r, 0, none⟩), .int .i64 n] w fun v w' => v = .returned (.string (bs (rRaw n l p e).1)) ∧ Rq w' r l (rRaw n l p e).2.1 (rRaw n l p e).2.2 ∧ Keep (fun k => k ≠ r) w w' := by
  have HR : Hid (∀ q, Rq (w.drewN q) r l p e) := fun q => h.keep ((Keep.refl (fun _ => True) w).drewN q) trivial
  by_cases he : e = 0
  · subst he
    obtain ⟨c0, c1, c2, f1, f2⟩ := h.cells
    have hz := bs_size l
    by_cases hn : n < 0
    · have hr : rRaw n l p 0 = ([], p, 2) := by unfold rRaw; rw [if_neg (by simp), if_pos hn]
      rw [hr]
      clear hr h hz hp hl
      go_enter Tryz.func77, Tryz.ntmps77
      go_wp2
      go_ret
      exact ⟨rfl, (HR.out 0).setErr 2, keep_ne_at (q := 0) _⟩
    · have t1 : decide (n < 0) = false := by simp; omega
      by_cases hs : (l.length : Int) - p < n
      · have hr : rRaw n l p 0 = ([], p, 3) := by unfold rRaw; rw [if_neg (by simp), if_neg hn, if_pos hs]
        rw [hr]
        clear hr h
        generalize bs l = sb at c0 hz
        have w1 : IntKind.i64.wrap ((sb.size : Int) - (p : Int)) = (sb.size : Int) - (p : Int) := IntWalk.i64_in _ (by omega)
        have t2 : (sb.size : Int) - (p : Int) < n := by omega
        clear hz hp hl hn hs
        go_enter Tryz.func77, Tryz.ntmps77
        go_wp2
        go_quiet (fail)
        go_wp2
        go_ret
        exact ⟨rfl, (HR.out _).setErr 3, keep_ne_at _ _⟩
      · obtain ⟨m, rfl⟩ : ∃ m : Nat, n = m := ⟨n.toNat, by omega⟩
        have hr : rRaw (m : Int) l p 0 = ((l.drop p).take m, p + m, 0) := by unfold rRaw; rw [if_neg (by simp), if_neg hn, if_neg hs]; rfl
        rw [hr]
        have hx := bs_extract l p (p + m)
        rw [show p + m - p = m by omega] at hx
        rw [← hx]
        clear hr h hx
        generalize bs l = sb at c0 hz ⊢
        have w1 : IntKind.i64.wrap ((sb.size : Int) - (p : Int)) = (sb.size : Int) - (p : Int) := IntWalk.i64_in _ (by omega)
        have t2 : decide ((sb.size : Int) - (p : Int) < (m : Int)) = false := by simp; omega
        have t3 : (p : Int) + (m : Int) ≤ (sb.size : Int) := by omega
        have t4 : (p : Int) ≤ (p : Int) + (m : Int) := by omega
        have t5 : (sb.size : Int) ≤ 281474976710656 := by omega
        have HX : Hid (((p + m : Nat) : Int) = (p : Int) + (m : Int)) := by show ((p + m : Nat) : Int) = (p : Int) + (m : Int); omega
        clear hz hp hl hn hs
        go_enter Tryz.func77, Tryz.ntmps77
        go_wp2
        go_quiet (fail)
        go_wp2
        go_quiet (fail)
        go_wp2
        go_ret
        exact ⟨rfl, (HR.out _).setAt (p + m), keep_ne_at _ _⟩
  · have hr : rRaw n l p e = ([], p, e) := by unfold rRaw; rw [if_pos he]
    obtain ⟨-, -, c2, -, -⟩ := h.cells
    have te : (e != 0) = true := by simpa using he
    rw [hr]
    clear hr h
    go_enter Tryz.func77, Tryz.ntmps77
    go_wp2
    go_ret
    exact ⟨rfl, HR.out 0, Keep.refl _ _⟩
set_option maxHeartbeats 400000 in
set_option maxRecDepth 100000 in
theorem qend_any {w : World} {r : Nat} {l p e} (h : Rq w r l p e) : Calls Tryz.prog 52 #[.pointer (some ⟨r, 0, none⟩)] w fun v w' => v = .returned (.int .i64 (endOf l.length p e)) ∧ Below w.heap.size w w' := by
  obtain ⟨c0, c1, c2, f1, f2⟩ := h.cells
  have hz := bs_size l
  obtain ⟨sb, hsb⟩ : ∃ sb, sb = bs l := ⟨_, rfl⟩
  rw [← hsb] at c0 hz
  clear h f1 f2 hsb
  by_cases he : e = 0
  · subst he
    by_cases hp : p < l.length
    · have e1 : endOf l.length p 0 = 5 := by unfold endOf; rw [if_neg (by omega), if_pos hp]
      have t1 : (p : Int) < (sb.size : Int) := by omega
      rw [e1]
      clear hz hp e1
      go_enter Tryz.func52, Tryz.ntmps52
      go_wp2
      go_quiet (fail)
      go_wp2
      go_ret
      exact ⟨rfl, below_drewN (Below.refl _ _) _⟩
    · have e1 : endOf l.length p 0 = 0 := by unfold endOf; rw [if_neg (by omega), if_neg hp]
      have t1 : ¬ ((p : Int) < (sb.size : Int)) := by omega
      rw [e1]
      clear hz hp e1
      go_enter Tryz.func52, Tryz.ntmps52
      go_wp2
      go_quiet (fail)
      go_wp2
      go_ret
      exact ⟨rfl, below_drewN (Below.refl _ _) _⟩
  · have e1 : endOf l.length p e = e := by unfold endOf; rw [if_pos he]
    have te : (e != 0) = true := by simpa using he
    rw [e1]
    clear hz e1 c0 c1
    go_enter Tryz.func52, Tryz.ntmps52
    go_wp2
    go_ret
    exact ⟨rfl, Below.refl _ _⟩
end Go.Proofs.YtnmjcpoobabjgaaGreatDoor
/- The reference's reader: a number. -/
namespace Go.Proofs.YtnmjcpoobabjgaaGreatDoor
open Go.RowKit Classical
/- what the loop knows: the rest is read as the whole -/
def Qn (most : Int) (l : List UInt8) (p i acc : Nat) : Prop := rd most (l.drop p) 0 0 = rd most (l.drop (p + i)) i acc ∧ acc < 128 ^ i
theorem Qn.start (most : Int) (l : List UInt8) (p : Nat) : Qn most l p 0 0 := ⟨rfl, by decide⟩
theorem pow_le6 {i : Nat} (h : i ≤ 6) : 128 ^ i ≤ 4398046511104 := Nat.le_trans (Nat.pow_le_pow_right (by decide) h) (by decide)
theorem drop_cons2 {l : List UInt8} {q : Nat} (h : q < l.length) : l.drop q = l[q] :: l.drop (q + 1) := List.drop_eq_getElem_cons h
theorem Qn.next {most : Int} {l : List UInt8} {p i acc : Nat} (h : Qn most l p i acc) (hi : i < 6) (hq : p + i < l.length) (h128 : 128 ≤ l[p + i].toNat) : Qn most l p (i + 1) (acc + l[p + i].toNat % 128 * 128 ^ i) := by
  refine ⟨?_, ?_⟩
  · rw [h.1, drop_cons2 hq, rd, if_neg (by omega), if_pos h128, Nat.add_assoc]
  · have h2 := h.2
    have h3 : l[p + i].toNat % 128 * 128 ^ i ≤ 127 * 128 ^ i := Nat.mul_le_mul_right _ (by omega)
    rw [Nat.pow_succ]
    omega
theorem Qn.short {most : Int} {l : List UInt8} {p i acc : Nat} (h : Qn most l p i acc) (hi : i < 6) (hq : l.length ≤ p + i) : rd most (l.drop p) 0 0 = (0, 0, 3) := by
  rw [h.1, List.drop_eq_nil_of_le hq, rd, if_neg (by omega)]
theorem Qn.six {most : Int} {l : List UInt8} {p acc : Nat} (h : Qn most l p 6 acc) : rd most (l.drop p) 0 0 = (0, 0, 4) := by
  rw [h.1]
  cases l.drop (p + 6) <;> rw [rd, if_pos rfl]
theorem Qn.zero {most : Int} {l : List UInt8} {p i acc : Nat} (h : Qn most l p i acc) (hi : i < 6) (hq : p + i < l.length) (h0 : l[p + i].toNat = 0) (hi0 : 0 < i) : rd most (l.drop p) 0 0 = (0, 0, 2) := by
  rw [h.1, drop_cons2 hq, rd, if_neg (by omega), if_neg (by omega), if_pos ⟨h0, hi0⟩]
theorem Qn.great {most : Int} {l : List UInt8} {p i acc : Nat} (h : Qn most l p i acc) (hi : i < 6) (hq : p + i < l.length) (h128 : ¬ 128 ≤ l[p + i].toNat) (h0 : ¬ (l[p + i].toNat = 0 ∧ 0 < i)) (hb : 1099511627775 < acc + l[p + i].toNat % 128 * 128 ^ i ∨ most < ((acc + l[p + i].toNat % 128 * 128 ^ i : Nat) : Int)) : rd most (l.drop p) 0 0 = (0, 0, 4) := by
  rw [h.1, drop_cons2 hq, rd, if_neg (by omega), if_neg h128, if_neg h0, if_pos hb]
theorem Qn.good {most : Int} {l : List UInt8} {p i acc : Nat} (h : Qn most l p i acc) (hi : i < 6) (hq : p + i < l.length) (h128 : ¬ 128 ≤ l[p + i].toNat) (h0 : ¬ (l[p + i].toNat = 0 ∧ 0 < i)) (hb : ¬ (1099511627775 < acc + l[p + i].toNat % 128 * 128 ^ i ∨ most < ((acc + l[p + i].toNat % 128 * 128 ^ i : Nat) : Int))) : rd most (l.drop p) 0 0 = (acc + l[p + i].toNat % 128 * 128 ^ i, i + 1, 0) := by
  rw [h.1, drop_cons2 hq, rd, if_neg (by omega), if_neg h128, if_neg h0, if_neg hb]
end Go.Proofs.YtnmjcpoobabjgaaGreatDoor
/- The reference's reader: a number, the walk. -/
namespace Go.Proofs.YtnmjcpoobabjgaaGreatDoor
open Go.RowKit Classical
theorem q_keep {w wr : World} {r o : Nat} (v : Value) (h : Keep (fun k => k ≠ r) w wr) : Keep (fun k => k ≠ r) w (wr.setCell ⟨r, o, none⟩ v) := h.setCell (fun h => h rfl) v
theorem i64_small {n : Nat} (h : n ≤ 4398046511104) : IntKind.i64.wrap (n : Int) = (n : Int) ∧ wrap64 (n : Int) = (n : Int) := by
 have e : wrap64 (n : Int) = (n : Int) := IntWalk.wrap64_in _ ⟨by omega, by omega⟩
 exact ⟨(IntWalk.i64_left _).trans e, e⟩
/- the loop's sums, as letters -/
theorem num_facts {acc one b T : Nat} (hone : one = T) (hacc : acc < T) (hT : T * 128 ≤ 4398046511104) (hb : b < 256) : ∃ R0 M A O : Nat, A = acc + b % 128 * T ∧ O = T * 128 ∧
  (IntKind.i64.wrap (b : Int) = (b : Int) ∧ wrap64 (b : Int) = (b : Int)) ∧ ((b : Int).tmod 128 = (R0 : Int) ∧ (b : Int) % 128 = (R0 : Int)) ∧ (R0 : Int) * (one : Int) = (M : Int) ∧ (acc : Int) + (M : Int) = (A : Int) ∧ (one : Int) * 128 = (O : Int) ∧
  (IntKind.i64.wrap (R0 : Int) = (R0 : Int) ∧ wrap64 (R0 : Int) = (R0 : Int)) ∧ (IntKind.i64.wrap (M : Int) = (M : Int) ∧ wrap64 (M : Int) = (M : Int)) ∧ (IntKind.i64.wrap (A : Int) = (A : Int) ∧ wrap64 (A : Int) = (A : Int)) ∧ (IntKind.i64.wrap (O : Int) = (O : Int) ∧ wrap64 (O : Int) = (O : Int)) := by
 have hM : b % 128 * T ≤ 127 * T := Nat.mul_le_mul_right _ (by omega)
 refine ⟨b % 128, b % 128 * T, acc + b % 128 * T, T * 128, rfl, rfl, i64_small (by omega), ⟨by rw [Int.tmod_eq_emod_of_nonneg (by omega)]; omega, by omega⟩, by rw [hone]; simp, by simp, by rw [hone]; simp, i64_small (by omega), i64_small (by omega), i64_small (by omega), i64_small hT⟩
set_option maxHeartbeats 2000000 in
set_option maxRecDepth 100000 in
theorem qnum_any {w : World} {r : Nat} {l p e} (most : Int) (h : Rq w r l p e) (hp : p ≤ l.length) (hl : l.length ≤ 281474976710656) :
  Calls Tryz.prog 66 #[.pointer (some ⟨r, 0, none⟩), .int .i64 most] w fun v w' => v = .returned (.int .i64 (rNum most l p e).1) ∧ Rq w' r l (rNum most l p e).2.1 (rNum most l p e).2.2 ∧ Keep (fun k => k ≠ r) w w' := by
 by_cases he : e = 0
 ·subst he
  obtain ⟨R, hR⟩ : ∃ R, R = rNum most l p 0 := ⟨_, rfl⟩
  rw [← hR]
  have F1 : Hid (∀ er, rd most (l.drop p) 0 0 = (0, 0, er) → er ≠ 0 → R = (0, p, er)) := fun er h1 h2 => by rw [hR]; unfold rNum; rw [if_neg (by simp), h1, if_pos h2]
  have F2 : Hid (∀ n s, rd most (l.drop p) 0 0 = (n, s, 0) → R = (n, p + s, 0)) := fun n s h1 => by rw [hR]; unfold rNum; rw [if_neg (by simp), h1, if_neg (by simp)]
  obtain ⟨c0, c1, c2, f1, f2⟩ := h.cells
  have Q0 : Hid (Qn most l p 0 0 ∧ p + 0 ≤ l.length) := ⟨Qn.start most l p, hp⟩
  have K0 : Hid (Rq w r l p 0 ∧ Keep (fun k => k ≠ r) w w) := ⟨h, Keep.refl _ _⟩
  have hz := bs_size l
  have hat : Hid (∀ k (h1 : k < (bs l).size) (h2 : k < l.length), (bs l)[k]'h1 = l[k]'h2) := fun k h1 h2 => by simp [bs]; rfl
  have L0 := Lib.hid hl
  obtain ⟨sb, hsb⟩ : ∃ sb, sb = bs l := ⟨_, rfl⟩
  rw [← hsb] at c0 hz hat
  have SB := Lib.hid hsb
  have HZ := Lib.hid hz
  clear hsb
  clear h hR hp hl hz
  go_enter Tryz.func66, Tryz.ntmps66
  go_wp2
  go_loopw [5, 6, 7] (fun u v i wr => ∃ (k acc one : Nat), k ≤ 6 ∧ i = .int .i64 k ∧ u = .int .i64 acc ∧ v = .int .i64 one ∧ Hid (one = 128 ^ k) ∧ Hid (Qn most l p k acc ∧ p + k ≤ l.length) ∧ Hid (Rq wr r l p 0 ∧ Keep (fun k => k ≠ r) w wr)) (fun _ _ i _ => 6 - (intOf i).toNat)
  case atStart => exact ⟨0, 0, 1, by decide, rfl, rfl, rfl, (show (1 : Nat) = 128 ^ 0 from rfl), Q0, K0⟩
  case round =>
   obtain ⟨k, acc, one, hk, rfl, rfl, rfl, hone, hQ, hW⟩ := hrel
   obtain ⟨d0, d1, d2, g1, g2⟩ := hW.out.1.cells
   rw [← SB.out] at d0
   have hz := HZ.out
   have HR : Hid (∀ q, Rq (wr.drewN q) r l p 0) := fun q => hW.out.1.keep ((Keep.refl (fun _ => True) wr).drewN q) trivial
   have HK : Hid (∀ q, Keep (fun k => k ≠ r) w (wr.drewN q)) := fun q => hW.out.2.drewN q
   by_cases hlt : k < 6
   ·have yk : (k : Int) < 6 := by omega
    have zk : (0 : Int) ≤ (k : Int) := by omega
    by_cases hq : l.length ≤ p + k
    ·have E := Lib.hid (F1.out 3 (hQ.out.1.short hlt hq) (by decide))
     have sz : ((sb.size : Int)) ≤ (p : Int) + (k : Int) := by omega
     have w1 : IntKind.i64.wrap ((p : Int) + (k : Int)) = (p : Int) + (k : Int) := IntWalk.i64_in _ (by have := L0.out; have := hQ.out.2; omega)
     clear hlt hq hz
     go_wp2
     go_quiet (fail)
     go_wp2
     go_ret
     rw [E.out]
     exact ⟨rfl, (HR.out _).setErr 3, q_keep _ (HK.out _)⟩
    ·have hq2 : p + k < l.length := by omega
     obtain ⟨b, hb⟩ : ∃ b : Nat, b = (l[p + k]).toNat := ⟨_, rfl⟩
     obtain ⟨q, hqq⟩ : ∃ q : Nat, q = p + k := ⟨_, rfl⟩
     have b256 : b < 256 := by rw [hb]; exact UInt8.toNat_lt _
     obtain ⟨R0, M, A, O, hA, hO, ⟨w0, w0'⟩, ⟨e1, e2⟩, e3, e4, e5, ⟨w5, w5'⟩, ⟨w2, w2'⟩, ⟨w3, w3'⟩, w4, w4'⟩ := num_facts hone.out hQ.out.1.2 (by rw [← Nat.pow_succ]; exact pow_le6 hlt) b256
     have HA : Hid (∀ h : p + k < l.length, A = acc + (l[p + k]'h).toNat % 128 * 128 ^ k) := fun h => by rw [hA, hb]
     have HO : Hid (O = 128 ^ (k + 1)) := by show _ = _; rw [hO, Nat.pow_succ]
     clear hA hO
     have w1 : IntKind.i64.wrap ((p : Int) + (k : Int)) = (q : Int) := by rw [hqq, Int.natCast_add]; exact IntWalk.i64_in _ (by have := L0.out; omega)
     have sz : (q : Int) < (sb.size : Int) := by omega
     have ix : ∀ W : World, (Instr.index 9 (.string sb) (.int .i64 (q : Int))).run Tryz.prog W = .ok (.int .u8 (b : Int)) W := fun W => by
      have hai : (asIntOf (.int .i64 (q : Int))).run Tryz.prog W = .ok (.i64, (q : Int)) W := rfl
      have hq3 : q < sb.size := by omega
      have hv : sb[q]'hq3 = l[p + k] := by subst hqq; exact hat.out (p + k) hq3 hq2
      have hu : Tryz.prog.underlying 9 = some .string := by kernel_rfl
      simp [Instr.index, run_underlying hu, hai, hq3, hv, hb]
     have HLT := Lib.hid hlt
     have HQ2 := Lib.hid hq2
     have HB : Hid (∀ h : p + k < l.length, b = (l[p + k]'h).toNat) := fun h => hb
     have HQQ := Lib.hid hqq
     clear hb hqq hq hz hlt hq2 b256
     go_wp2
     go_quiet (fail)
     go_wp2
     go_quiet (fail)
     go_upto_region 13 with (fail)
     have W2 : Hid (∀ q, Rq (wr.drewN q) r l p 0 ∧ Keep (fun k => k ≠ r) w (wr.drewN q)) := fun q => ⟨HR.out q, HK.out q⟩
     clear hW HR HK c0 c1 c2 f1 f2 ix e1 e2 e3 e4 e5 w2 w2' w3 w3' w4 w4' w5 w5' w0 w0' hat
     by_cases h128 : 128 ≤ b
     ·have t1 : (128 : Int) ≤ (b : Int) := by omega
      have Q2 : Hid (Qn most l p (k + 1) A ∧ p + (k + 1) ≤ l.length) := ⟨by rw [HA.out HQ2.out]; exact hQ.out.1.next HLT.out HQ2.out (by rw [← HB.out HQ2.out]; exact h128), by have := HQ2.out; omega⟩
      have w6 : IntKind.i64.wrap ((k : Int) + 1) = (k : Int) + 1 := IntWalk.i64_in _ (by omega)
      clear h128
      go_wp2
      go_roundw
      case rel => exact ⟨k + 1, A, O, HLT.out, by go_num, rfl, rfl, HO, Q2, W2.out _⟩
      case measure => simp [intOf]; have := HLT.out; omega
     ·have t1 : (b : Int) < 128 := by omega
      have n1 : ¬ 128 ≤ (l[p + k]'HQ2.out).toNat := by rw [← HB.out HQ2.out]; exact h128
      by_cases h0 : b = 0 ∧ 0 < k
      ·have E := Lib.hid (F1.out 2 (hQ.out.1.zero HLT.out HQ2.out (by rw [← HB.out HQ2.out]; exact h0.1) h0.2) (by decide))
       obtain ⟨b0, k0⟩ := h0
       have t3 : (0 : Int) < (k : Int) := by omega
       subst b0
       clear n1 h128 k0
       go_wp2
       go_ret
       rw [E.out]
       exact ⟨rfl, Rq.setErr (W2.out _).1 2, q_keep _ (W2.out _).2⟩
      ·have n0 : ¬ ((l[p + k]'HQ2.out).toNat = 0 ∧ 0 < k) := by rw [← HB.out HQ2.out]; exact h0
       have ways : ((b : Int) == 0) = false ∨ k = 0 := by
        by_cases c : b = 0
        ·right; omega
        ·left; simp; omega
       clear h0 h128
       by_cases hg : 1099511627775 < A ∨ most < (A : Int)
       ·have E := Lib.hid (F1.out 4 (hQ.out.1.great HLT.out HQ2.out n1 n0 (by rw [← HA.out HQ2.out]; exact hg)) (by decide))
        have ways2 : decide ((1099511627775 : Int) < (A : Int)) = true ∨ (decide ((1099511627775 : Int) < (A : Int)) = false ∧ decide (most < (A : Int)) = true) := by
         by_cases c : 1099511627775 < A
         ·left; simp; omega
         ·right; refine ⟨by simp; omega, ?_⟩
          rcases hg with h | h
          ·exact absurd h c
          ·simp; exact h
        clear hg n1 n0
        go_upto_region 14 with (fail)
        rcases ways with t2 | rfl
        all_goals rcases ways2 with t3 | ⟨t3, t4⟩
        all_goals go_wp2
        all_goals go_ret
        all_goals rw [E.out]
        all_goals exact ⟨rfl, Rq.setErr (W2.out _).1 4, q_keep _ (W2.out _).2⟩
       ·have E : Hid (R = (A, p + (k + 1), 0)) := by
         show _ = _
         rw [F2.out _ _ (hQ.out.1.good HLT.out HQ2.out n1 n0 (by rw [← HA.out HQ2.out]; exact hg)), HA.out HQ2.out]
        have t3 : decide ((1099511627775 : Int) < (A : Int)) = false := by simp; omega
        have t4 : decide (most < (A : Int)) = false := by simp; omega
        have w6 : IntKind.i64.wrap ((q : Int) + 1) = ((p + (k + 1) : Nat) : Int) := by rw [show (q : Int) + 1 = ((p + (k + 1) : Nat) : Int) by have := HQQ.out; omega]; exact IntWalk.i64_in _ (by have := L0.out; have := HQ2.out; omega)
        have w6' : wrap64 ((q : Int) + 1) = ((p + (k + 1) : Nat) : Int) := (IntWalk.i64_left _).symm.trans w6
        clear hg n1 n0
        go_upto_region 14 with (fail)
        rcases ways with t2 | rfl
        ·go_wp2
         go_ret
         rw [E.out]
         exact ⟨rfl, Rq.setAt (W2.out _).1 _, q_keep _ (W2.out _).2⟩
        ·have b8 := L0.out
         have b9 := HQ2.out
         have w8 : wrap64 (p : Int) = (p : Int) := IntWalk.wrap64_in _ ⟨by omega, by omega⟩
         have w9 : wrap64 ((p : Int) + 1) = ((p + (0 + 1) : Nat) : Int) := by rw [show (p : Int) + 1 = ((p + (0 + 1) : Nat) : Int) by omega]; exact IntWalk.wrap64_in _ ⟨by omega, by omega⟩
         clear b8 b9
         go_wp2
         all_goals go_ret
         all_goals rw [E.out]
         all_goals exact ⟨rfl, Rq.setAt (W2.out _).1 _, q_keep _ (W2.out _).2⟩
   ·have ek : k = 6 := by omega
    subst ek
    have E := Lib.hid (F1.out 4 (hQ.out.1.six) (by decide))
    clear hlt hk
    go_wp2
    go_ret
    rw [E.out]
    exact ⟨rfl, hW.out.1.setErr 4, q_keep _ hW.out.2⟩
 ·have hr : rNum most l p e = (0, p, e) := by unfold rNum; rw [if_pos he]
  have HR := Lib.hid h
  obtain ⟨-, -, c2, -, -⟩ := h.cells
  have te : (e != 0) = true := by simpa using he
  rw [hr]
  clear hr h
  go_enter Tryz.func66, Tryz.ntmps66
  go_wp2
  go_ret
  exact ⟨rfl, HR.out, Keep.refl _ _⟩
end Go.Proofs.YtnmjcpoobabjgaaGreatDoor
/- The reference's reader: an id. -/
namespace Go.Proofs.YtnmjcpoobabjgaaGreatDoor
open Go.RowKit
theorem ty9s : Tryz.prog.underlying 9 = some .string := by kernel_rfl
theorem idx_bs (t : List UInt8) (k : Nat) (h : k < t.length) (w : World) : (Instr.index 9 (.string (bs t)) (.int .i64 (k : Int))).run Tryz.prog w = .ok (.int .u8 ((idOf t k).toNat : Int)) w := by
  have hs : (bs t).size = t.length := bs_size t
  have e : idOf t k = (bs t)[k]'(by omega) := by
    unfold idOf bs
    rw [List.getD_eq_getElem?_getD, List.getElem?_eq_getElem h]
    simp
    rfl
  rw [e]
  have hai : (asIntOf (.int .i64 (k : Int))).run Tryz.prog w = .ok (.i64, (k : Int)) w := rfl
  simp [Instr.index, run_underlying ty9s, hai, hs, h]
def fill (t : List UInt8) (k j : Nat) : UInt8 := if j < k then idOf t j else 0
theorem fill_zero (t : List UInt8) : bv (fill t 0) = bv fun _ => 0 := by funext j; unfold bv fill; rw [if_neg (by omega)]
theorem fill_next (t : List UInt8) (k j : Nat) : bv (fill t (k + 1)) j = if j = k then .int .u8 ((idOf t k).toNat : Int) else bv (fill t k) j := by
  unfold bv fill
  by_cases c : j = k
  · subst c; rw [if_pos rfl, if_pos (by omega)]; rfl
  · rw [if_neg c]
    by_cases d : j < k
    · rw [if_pos d, if_pos (by omega)]
    · rw [if_neg d, if_neg (by omega)]
theorem fill_all (t : List UInt8) (j : Nat) : bv (fill t t.length) j = bv (idOf t) j := by
  unfold bv fill
  by_cases d : j < t.length
  · rw [if_pos d]
  · rw [if_neg d]
    unfold idOf
    rw [List.getD_eq_getElem?_getD, List.getElem?_eq_none (by omega)]; rfl
set_option maxHeartbeats 1000000 in
set_option maxRecDepth 100000 in
theorem qid_any {w : World} {r : Nat} {l p e} (h : Rq w r l p e) (hp : p ≤ l.length) (hl : l.length ≤ 281474976710656) :
    Calls Tryz.prog 95 #[.pointer (some ⟨r, 0, none⟩)] w fun v w' => v = .returned (.agg (arr 32 (bv (idOf (rRaw 32 l p e).1)))) ∧ Rq w' r l (rRaw 32 l p e).2.1 (rRaw 32 l p e).2.2 ∧ Keep (fun k => k ≠ r) w w' := by
  have H : Hid (∀ W, Rq W r l p e → Calls Tryz.prog 77 #[.pointer (some ⟨r, 0, none⟩), .int .i64 32] W fun v w' => v = .returned (.string (bs (rRaw 32 l p e).1)) ∧ Rq w' r l (rRaw 32 l p e).2.1 (rRaw 32 l p e).2.2 ∧ Keep (fun k => k ≠ r) W w') := fun W hW => qraw_any 32 hW hp hl
  have ht := rRaw_len 32 l p e
  obtain ⟨t, q, e2, hraw⟩ : ∃ t q e2, rRaw 32 l p e = (t, q, e2) := ⟨_, _, _, rfl⟩
  have ht2 : t.length ≤ 32 := by have := ht; rw [show ((32 : Nat) : Int) = 32 from rfl, hraw] at this; exact this
  rw [hraw] at H ⊢
  clear hraw ht hp hl
  dsimp only at H ⊢
  have hr := h.lt
  have B0 : Blk (w.alloc (.cells (arr 32 (bv fun _ => 0)) 37)) w.heap.size 37 32 (bv fun _ => 0) := Blk.newAt _ (heap_alloc_new w _) rfl
  have KW : Keep (fun k => k ≠ r) w (w.alloc (.cells (arr 32 (bv fun _ => 0)) 37)) := (Keep.refl _ w).alloc _
  have RW : Rq (w.alloc (.cells (arr 32 (bv fun _ => 0)) 37)) r l p e := h.keep ((Keep.refl (fun _ => True) w).alloc _) trivial
  have HA : Hid (t.length ≤ 32 ∧ r < w.heap.size) := ⟨ht2, hr⟩
  have HB : Hid (Blk (w.alloc (.cells (arr 32 (bv fun _ => 0)) 37)) w.heap.size 37 32 (bv fun _ => 0) ∧ Keep (fun k => k ≠ r) w (w.alloc (.cells (arr 32 (bv fun _ => 0)) 37)) ∧ Rq (w.alloc (.cells (arr 32 (bv fun _ => 0)) 37)) r l p e) := ⟨B0, KW, RW⟩
  have IX := Lib.hid (idx_bs t)
  have SZ : Hid ((bs t).size = t.length) := bs_size t
  clear ht2 hr h B0 KW RW
  go_enter Tryz.func95, Tryz.ntmps95
  go_wp2_with fail
  change Calls Tryz.prog _ _ (w.alloc (.cells (arr 32 (bv fun _ => 0)) 37)) _
  generalize w.alloc (.cells (arr 32 (bv fun _ => 0)) 37) = W at HB ⊢
  generalize hz : w.heap.size = z at HA HB ⊢
  have HZ := Lib.hid hz
  clear hz
  refine (H.out W HB.out.2.2).mono ?_
  rintro v w1 ⟨rfl, g1, g2⟩
  have R1 := Lib.hid g1
  have K1 := Lib.hid (HB.out.2.1.trans g2)
  have B1 : Hid (Blk w1 z 37 32 (bv fun _ => 0)) := g2.blk (by have := HA.out.2; omega) HB.out.1
  clear g1 g2 HB H
  obtain ⟨sb, hsb⟩ : ∃ sb, sb = bs t := ⟨_, rfl⟩
  rw [← hsb] at IX SZ ⊢
  clear hsb
  go_wp2
  change Code.wp Tryz.prog _ _ _ (w1.alloc (.cells (arr 32 (bv fun _ => 0)) 37))
  have S0 : Hid (Blk (w1.alloc (.cells (arr 32 (bv fun _ => 0)) 37)) w1.heap.size 37 32 (bv (fill t 0)) ∧ Blk (w1.alloc (.cells (arr 32 (bv fun _ => 0)) 37)) z 37 32 (bv fun _ => 0) ∧ Rq (w1.alloc (.cells (arr 32 (bv fun _ => 0)) 37)) r l q e2 ∧ Keep (fun k => k ≠ r) w (w1.alloc (.cells (arr 32 (bv fun _ => 0)) 37))) :=
    ⟨by rw [fill_zero]; exact Blk.newAt _ (heap_alloc_new _ _) rfl, B1.out.alloc _, R1.out.keep ((Keep.refl (fun _ => True) w1).alloc _) trivial, K1.out.alloc _⟩
  have HN : Hid (z < w1.heap.size ∧ r < w1.heap.size ∧ w.heap.size ≤ w1.heap.size) := ⟨B1.out.lt, R1.out.lt, K1.out.size⟩
  clear B1 R1 K1
  generalize w1.alloc (.cells (arr 32 (bv fun _ => 0)) 37) = w2 at S0 ⊢
  generalize w1.heap.size = x at S0 HN ⊢
  go_loopw [5] (fun v wr => ∃ k : Nat, v = .int .i64 (k : Int) ∧ k ≤ t.length ∧ Hid (Blk wr x 37 32 (bv (fill t k)) ∧ Blk wr z 37 32 (bv fun _ => 0) ∧ Rq wr r l q e2 ∧ Keep (fun k => k ≠ r) w wr)) (fun v _ => t.length - (intOf v).toNat)
  case atStart => exact ⟨0, rfl, Nat.zero_le _, S0⟩
  case round =>
    obtain ⟨k, rfl, hk, hS⟩ := hrel
    clear S0
    by_cases hlt : k < t.length
    · have t32 := HA.out.1
      have sz := SZ.out
      have ix := IX.out k hlt
      have c1 : wr.cell? ⟨x, k, none⟩ = some (cb (fill t k k)) := hS.out.1.cell k (by omega)
      have f1 : wr.frozen? ⟨x, k, none⟩ = false := hS.out.1.frozen k
      have yk : (k : Int) < (sb.size : Int) := by omega
      have zk : (0 : Int) ≤ (k : Int) := by omega
      have y32 : (k : Int) < 32 := by omega
      have w1' : IntKind.i64.wrap ((k : Int) + 1) = (k : Int) + 1 := IntWalk.i64_in _ (by omega)
      obtain ⟨vb, hvb⟩ : ∃ vb, vb = Value.int .u8 ((idOf t k).toNat : Int) := ⟨_, rfl⟩
      have F2 : Hid (Blk (wr.setCell ⟨x, k, none⟩ (.int .u8 ((idOf t k).toNat : Int))) x 37 32 (bv (fill t (k + 1))) ∧ Blk (wr.setCell ⟨x, k, none⟩ (.int .u8 ((idOf t k).toNat : Int))) z 37 32 (bv fun _ => 0) ∧ Rq (wr.setCell ⟨x, k, none⟩ (.int .u8 ((idOf t k).toNat : Int))) r l q e2 ∧ Keep (fun k => k ≠ r) w (wr.setCell ⟨x, k, none⟩ (.int .u8 ((idOf t k).toNat : Int)))) := by
        obtain ⟨h1, h2, h3, h4⟩ := hS.out
        have hn := HN.out
        have hz := HZ.out
        refine ⟨(h1.set k _).congr fun j _ => (fill_next t k j).symm, h2.setOther _ _ (show x ≠ z by omega), h3.keep ((Keep.refl (fun b => b ≠ x) wr).setCell (fun h => h rfl) _) (by omega), ⟨h4.os, h4.tape, h4.output, by simp; exact h4.size, fun b hb hl => ?_⟩⟩
        rw [heap_setCell_other _ _ _ _ (by show b ≠ x; omega)]
        exact h4.block b hb hl
      clear hvb vb hS sz
      generalize cb (fill t k k) = v0 at c1
      go_wp2
      go_roundw
      case rel => exact ⟨k + 1, by go_num, by omega, F2⟩
      case measure => simp [intOf]; omega
    · have e : k = t.length := by omega
      subst e
      have yk : (sb.size : Int) ≤ (t.length : Int) := by have := SZ.out; omega
      obtain ⟨h1, h2, h3, h4⟩ := hS.out
      have B5 : Blk wr x 37 32 (bv (idOf t)) := h1.congr fun j _ => fill_all t j
      have G1 : Hid (Rq (wr.setRow z (arr 32 (bv (idOf t)))) r l q e2) := h3.keep ((Keep.refl (fun b => b ≠ z) wr).setRow (fun h => h rfl) _) (by have := HA.out.2; omega)
      have G2 : Hid (Keep (fun k => k ≠ r) w (wr.setRow z (arr 32 (bv (idOf t))))) := h4.setRowNew (by rw [HZ.out]; omega) _
      have B2 := h2.setRow (bv (idOf t))
      clear h1 h3 h4 hS
      go_wp2_with (first | (refine wpList_load_blk rfl 37 (.tmp 4) rfl x rfl 37 32 (bv (idOf t)) B5 _ ty30 rfl sz30 ?_) | (refine wpList_store_blk rfl 37 (.tmp 2) (.tmp 19) rfl z 32 (bv (idOf t)) (bv fun _ => 0) rfl rfl 37 h2 sz30 (fun _ _ => rfl) ?_))
      generalize wr.setRow z (arr 32 (bv (idOf t))) = w3 at B2 G1 G2 ⊢
      exact bodyPost_ret (v := .agg (arr 32 (bv (idOf t)))) (results_blk rfl _ _ z 37 32 _ B2 _ rfl ty30 rfl sz30) rfl ⟨rfl, G1.out, G2.out⟩
end Go.Proofs.YtnmjcpoobabjgaaGreatDoor
/- The reference's reader: a text. -/
namespace Go.Proofs.YtnmjcpoobabjgaaGreatDoor
open Go.RowKit
theorem raw_empty {n : Int} {l : List UInt8} {p : Nat} {e : Int} (h : (rRaw n l p e).2.2 ≠ 0) : (rRaw n l p e).1 = [] := by
  unfold rRaw at h ⊢
  split
  · rfl
  · split
    · rfl
    · split
      · rfl
      · rename_i a b c
        rw [if_neg a, if_neg b, if_neg c] at h
        exact absurd rfl h
set_option maxHeartbeats 400000 in
set_option maxRecDepth 100000 in
theorem qtext_any {w : World} {r : Nat} {l p e} (most : Int) (h : Rq w r l p e) (hp : p ≤ l.length) (hl : l.length ≤ 281474976710656) :
    Calls Tryz.prog 51 #[.pointer (some ⟨r, 0, none⟩), .int .i64 most] w fun v w' => v = .returned (.string (bs (rText most l p e).1)) ∧ Rq w' r l (rText most l p e).2.1 (rText most l p e).2.2 ∧ Keep (fun k => k ≠ r) w w' := by
  by_cases he : e = 0
  · subst he
    obtain ⟨c0, c1, c2, f1, f2⟩ := h.cells
    have H1 := qnum_any most h hp hl
    have hq := rNum_le most l p 0 hp
    obtain ⟨n, q, er, hnum⟩ : ∃ n q er, rNum most l p 0 = (n, q, er) := ⟨_, _, _, rfl⟩
    rw [hnum] at H1 hq
    have H2 : Hid (∀ w1, Rq w1 r l q er → Calls Tryz.prog 77 #[.pointer (some ⟨r, 0, none⟩), .int .i64 n] w1 fun v w' => v = .returned (.string (bs (rRaw n l q er).1)) ∧ Rq w' r l (rRaw n l q er).2.1 (rRaw n l q er).2.2 ∧ Keep (fun k => k ≠ r) w1 w') := fun w1 h1 => qraw_any (n : Int) h1 hq hl
    have ht : rText most l p 0 = if (rRaw n l q er).2.2 ≠ 0 then ((rRaw n l q er).1, p, (rRaw n l q er).2.2) else rRaw n l q er := by
      unfold rText
      rw [if_neg (by simp), hnum]
    have hem := @raw_empty (n : Int) l q er
    rw [ht]
    clear ht hnum hq hp hl h c0 f1 f2
    obtain ⟨s, q2, e2, hraw⟩ : ∃ s q2 e2, rRaw n l q er = (s, q2, e2) := ⟨_, _, _, rfl⟩
    rw [hraw] at H2 hem ⊢
    clear hraw
    dsimp only at H1 H2 hem ⊢
    by_cases h2 : e2 = 0
    · subst h2
      rw [if_neg (by simp)]
      dsimp only
      clear hem
      generalize bs s = sb at H2 ⊢
      go_enter Tryz.func51, Tryz.ntmps51
      go_wp2_with fail
      refine H1.mono ?_
      rintro v w1 ⟨rfl, hR1, hK1⟩
      have HK1 := Lib.hid hK1
      have HR1 := Lib.hid hR1
      clear hK1 hR1 c1 c2
      go_wp2_with fail
      refine (H2.out w1 HR1.out).mono ?_
      rintro v w2 ⟨rfl, hR2, hK2⟩
      have HK2 := Lib.hid (HK1.out.trans hK2)
      have HR2 := Lib.hid hR2
      obtain ⟨-, c1b, c2, f1, -⟩ := hR2.cells
      clear hK2 hR2
      go_wp2
      go_ret
      exact ⟨rfl, HR2.out, HK2.out⟩
    · rw [if_pos h2]
      dsimp only
      obtain rfl := hem h2
      have h3 : (e2 != 0) = true := by simp [h2]
      clear h2 hem
      have EB : Hid (bs [] = (⟨#[]⟩ : ByteArray)) := rfl
      rw [EB.out] at H2 ⊢
      go_enter Tryz.func51, Tryz.ntmps51
      go_wp2_with fail
      refine H1.mono ?_
      rintro v w1 ⟨rfl, hR1, hK1⟩
      have HK1 := Lib.hid hK1
      have HR1 := Lib.hid hR1
      clear hK1 hR1 c1 c2
      go_wp2_with fail
      refine (H2.out w1 HR1.out).mono ?_
      rintro v w2 ⟨rfl, hR2, hK2⟩
      have HK2 := Lib.hid (HK1.out.trans hK2)
      have HR2 := Lib.hid hR2
      obtain ⟨-, c1b, c2, f1, -⟩ := hR2.cells
      clear hK2 hR2
      go_wp2
      go_ret
      exact ⟨rfl, HR2.out.setAt p, HK2.out.setCell (fun h => h rfl) _⟩
  · have hr : rText most l p e = ([], p, e) := by unfold rText; rw [if_pos he]
    have HR : Hid (Rq w r l p e) := h
    obtain ⟨-, -, c2, -, -⟩ := h.cells
    have te : (e != 0) = true := by simpa using he
    rw [hr]
    clear hr h
    go_enter Tryz.func51, Tryz.ntmps51
    go_wp2
    go_ret
    exact ⟨rfl, HR.out, Keep.refl _ _⟩
end Go.Proofs.YtnmjcpoobabjgaaGreatDoor
/- The document's answer: the entries of a body. -/
namespace Go.Proofs.YtnmjcpoobabjgaaGreatDoor
open Go.RowKit Classical
theorem bd_zero (w : World) : (Instr.build 164 #[]).run Tryz.prog w = .ok (.agg (arr 34 (ev ⟨[], 0, fun _ => 0⟩))) w := by kernel_rfl
theorem ev_kind (n : List UInt8) (k k' : Int) (f : Nat → UInt8) (j : Nat) : (if j = 1 then Value.int .i64 k' else ev ⟨n, k, f⟩ j) = ev ⟨n, k', f⟩ j := by
 unfold ev
 by_cases c : j = 0
 ·subst c; rfl
 ·by_cases d : j = 1
  ·rw [if_pos d, if_neg c, if_pos d]
  ·rw [if_neg d, if_neg c, if_neg c, if_neg d, if_neg d]
theorem ev_name (n n' : List UInt8) (k : Int) (f : Nat → UInt8) (j : Nat) : (if j = 0 then Value.string (bs n') else ev ⟨n, k, f⟩ j) = ev ⟨n', k, f⟩ j := by
 unfold ev
 by_cases c : j = 0
 ·rw [if_pos c, if_pos c]
 ·rw [if_neg c, if_neg c, if_neg c]
theorem ev_idset (n : List UInt8) (k : Int) (f f' : Nat → UInt8) (j : Nat) (hj : j < 34) : (if 2 ≤ j ∧ j < 2 + (arr 32 (bv f')).toList.length then (arr 32 (bv f')).toList.getD (j - 2) undef else ev ⟨n, k, f⟩ j) = ev ⟨n, k, f'⟩ j := by
 rw [Array.length_toList, arr_size]
 by_cases c : 2 ≤ j
 ·rw [if_pos ⟨c, by omega⟩, List.getD_eq_getElem?_getD, Array.getElem?_toList, arr_get _ _ _ (by omega)]
  unfold ev
  rw [if_neg (by omega), if_neg (by omega)]
  rfl
 ·rw [if_neg (fun h => c h.1)]
  unfold ev
  by_cases d : j = 0
  ·rw [if_pos d, if_pos d]
  ·have e : j = 1 := by omega
   rw [if_neg d, if_neg d, if_pos e, if_pos e]
theorem rqM_of {w : World} {r : Nat} {l : List UInt8} {p : Nat} {e : Int} (h : Rq w r l p e) (n : Nat) : rdM n w r = if e = 0 then n + 1 - p else 0 := by
 unfold rdM
 rw [h.cells.2.1, h.cells.2.2.1]
 simp
/- what holds in the loop: r the reader -/
structure QS (r : Nat) (w0 : World) (l : List UInt8) (es : Nat → Ent) (k : Nat) (v : Value) (p : Nat) (e : Int) (w : World) : Prop where
 keep : Keep (fun b => b < w0.heap.size) w0 w
 row : w.ownsRow w0.heap.size 164 34 v k (arr (k * 34) (ec es)).toList
 rd : Rq w r l p e
 pi : PI l es k p e
 apart : v.ownBlock ≠ some r
/- within a round: x the block of the entry -/
structure QX (r x : Nat) (wr : World) (l : List UInt8) (f : Ent) (p : Nat) (e : Int) (w : World) : Prop where
 keep : Keep (fun b => b ≠ r ∧ b ≠ x) wr w
 blk : Blk w x 164 34 (ev f)
 rd : Rq w r l p e
theorem QX.start {r : Nat} {wr : World} {l : List UInt8} {p : Nat} {e : Int} (h : Rq wr r l p e) : QX r wr.heap.size wr l ⟨[], 0, fun _ => 0⟩ p e (wr.alloc (.cells (arr 34 (ev ⟨[], 0, fun _ => 0⟩)) 164)) :=
 ⟨(Keep.refl _ wr).alloc _, Blk.newAt _ (heap_alloc_new _ _) rfl, h.keep ((Keep.refl (fun _ => True) wr).alloc _) trivial⟩
theorem QX.call {r x : Nat} {wr w w' : World} {l : List UInt8} {f : Ent} {p p' : Nat} {e e' : Int} (h : QX r x wr l f p e w) (hx : x ≠ r) (g : Rq w' r l p' e') (k : Keep (fun k => k ≠ r) w w') : QX r x wr l f p' e' w' :=
 ⟨h.keep.trans (k.mono fun b hb _ => hb.1), k.blk hx h.blk, g⟩
theorem QX.kind {r x : Nat} {wr w : World} {l n : List UInt8} {k k' : Int} {f : Nat → UInt8} {p : Nat} {e : Int} (h : QX r x wr l ⟨n, k, f⟩ p e w) (hx : x ≠ r) : QX r x wr l ⟨n, k', f⟩ p e (w.setCell ⟨x, 1, none⟩ (.int .i64 k')) :=
 ⟨h.keep.setCell (fun hh => hh.2 rfl) _, (h.blk.set 1 _).congr fun j _ => ev_kind _ _ _ _ _, h.rd.keep ((Keep.refl (fun b => b ≠ x) w).setCell (fun hh => hh rfl) _) (fun hh => hx hh.symm)⟩
theorem QX.name {r x : Nat} {wr w : World} {l n n' : List UInt8} {k : Int} {f : Nat → UInt8} {p : Nat} {e : Int} (h : QX r x wr l ⟨n, k, f⟩ p e w) (hx : x ≠ r) : QX r x wr l ⟨n', k, f⟩ p e (w.setCell ⟨x, 0, none⟩ (.string (bs n'))) :=
 ⟨h.keep.setCell (fun hh => hh.2 rfl) _, (h.blk.set 0 _).congr fun j _ => ev_name _ _ _ _ _, h.rd.keep ((Keep.refl (fun b => b ≠ x) w).setCell (fun hh => hh rfl) _) (fun hh => hx hh.symm)⟩
theorem QX.id {r x : Nat} {wr w : World} {l n : List UInt8} {k : Int} {f f' : Nat → UInt8} {p : Nat} {e : Int} (h : QX r x wr l ⟨n, k, f⟩ p e w) (hx : x ≠ r) : QX r x wr l ⟨n, k, f'⟩ p e (w.setCells x 2 (arr 32 (bv f')).toList) := by
 have KZ := keep_setCells (b := x) (arr 32 (bv f')).toList 2 w
 exact ⟨h.keep.trans (KZ.mono fun b hb _ => hb.2), (Blk.setCells (arr 32 (bv f')).toList 2 w _ h.blk).congr fun j hj => ev_idset _ _ _ _ _ hj, h.rd.keep KZ (fun hh => hx hh.symm)⟩
/- behind a round -/
theorem QS.next {r x : Nat} {w0 wr w8 w9 : World} {l : List UInt8} {es : Nat → Ent} {k p p3 g cap : Nat} {v : Value} {e3 : Int} {f : Ent} (hr : w0.heap.size ≤ r) (hxx : x = wr.heap.size) (h : QS r w0 l es k v p 0 wr) (q : QX r x wr l f p3 e3 w8)
  (ho : w9.ownsRow w0.heap.size 164 34 (.slice (some ⟨g, 0, none⟩) (k + 1) cap) (k + 1) (arr ((k + 1) * 34) (ec (upE es k f))).toList) (k9 : Keep (fun k => v.ownBlock ≠ some k) w8 w9) (hat : v.ownBlock = some g ∨ g = w8.heap.size + 1) (hpi : PI l (upE es k f) (k + 1) p3 e3) :
  QS r w0 l (upE es k f) (k + 1) (.slice (some ⟨g, 0, none⟩) (k + 1) cap) p3 e3 w9 := by
 have own : ∀ b, b < w0.heap.size → v.ownBlock ≠ some b := fun b hb h2 => by have := (own_lt h.row h2).1; omega
 have hs := h.keep.size
 have hr8 := q.rd.lt
 refine ⟨(h.keep.trans (q.keep.mono fun b hb hl => ⟨by omega, by omega⟩)).trans (k9.mono fun b hb _ => own b hb), ho, q.rd.keep k9 h.apart, hpi, ?_⟩
 simp [Value.ownBlock]
 rintro rfl
 rcases hat with hh | hh
 ·exact h.apart hh
 ·omega
theorem QS.below {r : Nat} {w0 w w' : World} {l : List UInt8} {es : Nat → Ent} {k : Nat} {v : Value} {p : Nat} {e : Int} (h : QS r w0 l es k v p e w) (hb : Below w.heap.size w w') : QS r w0 l es k v p e w' :=
 ⟨h.keep.trans (Keep.all hb), owns_all h.row hb, h.rd.keep (K := fun _ => True) (Keep.all hb) trivial, h.pi, h.apart⟩
theorem QS.grown {r : Nat} {w0 w : World} {l : List UInt8} {es : Nat → Ent} {k : Nat} {v : Value} {p : Nat} {e : Int} (h : QS r w0 l es k v p e w) : Below w0.heap.size w0 w := h.keep.below (Nat.le_refl _)
set_option maxHeartbeats 4000000 in
set_option maxRecDepth 100000 in
theorem qentries_any (l : List UInt8) (w : World) (hl : l.length ≤ 1000000) :
  Calls Tryz.prog 78 #[.string (bs l)] w fun e w' => ∃ es n v, e = .returned (.tuple #[v, .bool (decide (isTree l))]) ∧ Row w' v 34 (ec es) n ∧ (isTree l → IsTree l es n) ∧ Fresh w.heap.size v ∧ Below w.heap.size w w' := by
 have R0 : Hid (Rq (w.alloc (.cells #[.string (bs l), .int .i64 0, .int .i64 0] 108)) w.heap.size l 0 0) := heap_alloc_new _ _
 have T0 : Hid (QS w.heap.size w l (fun _ => default) 0 (.slice none 0 0) 0 0 (w.alloc (.cells #[.string (bs l), .int .i64 0, .int .i64 0] 108))) :=
  ⟨(Keep.refl _ w).alloc _, by rw [Nat.zero_mul]; exact World.ownsRow_nil _ _ _ _, R0.out, PI.zero _ _, fun h => by simp [Value.ownBlock] at h⟩
 obtain ⟨sb, hsb⟩ : ∃ sb, sb = bs l := ⟨_, rfl⟩
 have SB := Lib.hid hsb
 have SZ : Hid (sb.size = l.length) := by show _ = _; rw [hsb]; exact bs_size l
 rw [← hsb] at R0 T0 ⊢
 have HL : Hid (l.length ≤ 1000000) := hl
 clear hsb hl
 go_enter Tryz.func78, Tryz.ntmps78
 go_wp2
 generalize w.alloc (.cells #[.string sb, .int .i64 0, .int .i64 0] 108) = w1 at R0 T0 ⊢
 go_loopw [5] (fun u wr => ∃ es k v p e, v = u ∧ Hid (QS w.heap.size w l es k v p e wr)) (fun _ wr => rdM l.length wr w.heap.size)
 case atStart => exact ⟨_, _, _, _, _, rfl, T0⟩
 case round =>
  obtain ⟨es, k, v, p, e, rfl, hT⟩ := hrel
  clear T0 R0
  obtain ⟨c0, c1, c2, -, -⟩ := hT.out.rd.cells
  rw [← SB.out] at c0
  by_cases he : e = 0 ∧ p < l.length
  ·obtain ⟨rfl, hp⟩ := he
   have HP := Lib.hid hp
   have M0 : Hid (rdM l.length wr w.heap.size = l.length + 1 - p) := by show _ = _; rw [rqM_of hT.out.rd, if_pos rfl]
   have yk : (p : Int) < (sb.size : Int) := by have := SZ.out; omega
   obtain ⟨n1, p1, e1, hn⟩ : ∃ n1 p1 e1, rNum 2 l p 0 = (n1, p1, e1) := ⟨_, _, _, rfl⟩
   obtain ⟨s2, p2, e2, ht⟩ : ∃ s2 p2 e2, rText 32 l p1 e1 = (s2, p2, e2) := ⟨_, _, _, rfl⟩
   obtain ⟨s3, p3, e3, hi⟩ : ∃ s3 p3 e3, rRaw 32 l p2 e2 = (s3, p3, e3) := ⟨_, _, _, rfl⟩
   have hstep := hT.out.pi.step hp hn ht hi
   have l1 : p1 ≤ l.length := by have := rNum_le 2 l p 0 hT.out.pi.le; rw [hn] at this; exact this
   have l2 : p2 ≤ l.length := by have := rText_le 32 l p1 e1 l1; rw [ht] at this; exact this
   have hl := HL.out
   have C1 : Hid (∀ W, Rq W w.heap.size l p 0 → Calls Tryz.prog 66 #[.pointer (some ⟨w.heap.size, 0, none⟩), .int .i64 2] W fun u w' => u = .returned (.int .i64 n1) ∧ Rq w' w.heap.size l p1 e1 ∧ Keep (fun k => k ≠ w.heap.size) W w') := fun W h => by
    have := qnum_any 2 h hT.out.pi.le (by omega)
    rw [hn] at this; exact this
   have C2 : Hid (∀ W, Rq W w.heap.size l p1 e1 → Calls Tryz.prog 51 #[.pointer (some ⟨w.heap.size, 0, none⟩), .int .i64 32] W fun u w' => u = .returned (.string (bs s2)) ∧ Rq w' w.heap.size l p2 e2 ∧ Keep (fun k => k ≠ w.heap.size) W w') := fun W h => by
    have := qtext_any 32 h l1 (by omega)
    rw [ht] at this; exact this
   have C3 : Hid (∀ W, Rq W w.heap.size l p2 e2 → Calls Tryz.prog 95 #[.pointer (some ⟨w.heap.size, 0, none⟩)] W fun u w' => u = .returned (.agg (arr 32 (bv (idOf s3)))) ∧ Rq w' w.heap.size l p3 e3 ∧ Keep (fun k => k ≠ w.heap.size) W w') := fun W h => by
    have := qid_any h l2 (by omega)
    rw [hi] at this; exact this
   have few := hT.out.pi.few
   have FEW : Hid (k + 1 ≤ 100000) := by show k + 1 ≤ 100000; omega
   have ST := Lib.hid hstep
   have XR : Hid (wr.heap.size ≠ w.heap.size) := by have := hT.out.rd.lt; show _ ≠ _; omega
   have X0 := Lib.hid (QX.start hT.out.rd)
   clear hn ht hi hstep l1 l2 hl few hp
   go_upto_region 5 with (first | (refine wpList_val rfl _ _ (ex_build (t := 164) (parts := #[]) rfl rfl (bd_zero wr)) ?_) | (refine wpList_store_blk rfl 164 (.tmp 6) (.tmp 24) rfl wr.heap.size 34 (ev ⟨[], 0, fun _ => 0⟩) (ev ⟨[], 0, fun _ => 0⟩) rfl rfl 164 (Blk.newAt _ (heap_alloc_new _ _) rfl) szEntry (fun i _ => ev_one _ i) ?_))
   rw [World.setRow_alloc_new]
   clear c0 c1 c2
   generalize wr.alloc (.cells (arr 34 (ev ⟨[], 0, fun _ => 0⟩)) 164) = w2 at X0 ⊢
   generalize hx : wr.heap.size = x at X0 XR ⊢
   have HX := Lib.hid hx.symm
   clear hx
   go_wp2_with fail
   refine (C1.out _ X0.out.rd).mono ?_
   rintro e w3 ⟨rfl, R3, K3⟩
   have X3 := Lib.hid (X0.out.call XR.out R3 K3)
   have c1 : w3.cell? ⟨x, 1, none⟩ = some (.int .i64 0) := X3.out.blk.cell 1 (by omega)
   have f1 : w3.frozen? ⟨x, 1, none⟩ = false := X3.out.blk.frozen 1
   have X4 := Lib.hid (X3.out.kind (k' := (n1 : Int)) XR.out)
   clear R3 K3 X0 X3 C1
   go_upto_region 6 with fail
   clear c1 f1
   generalize w3.setCell ⟨x, 1, none⟩ (.int .i64 (n1 : Int)) = w4 at X4 ⊢
   go_wp2_with fail
   refine (C2.out _ X4.out.rd).mono ?_
   rintro e w5 ⟨rfl, R3, K3⟩
   have X5 := Lib.hid (X4.out.call XR.out R3 K3)
   have c1 : w5.cell? ⟨x, 0, none⟩ = some (.string (bs [])) := X5.out.blk.cell 0 (by omega)
   have f1 : w5.frozen? ⟨x, 0, none⟩ = false := X5.out.blk.frozen 0
   have X6 := Lib.hid (X5.out.name (n' := s2) XR.out)
   clear R3 K3 X4 X5 C2
   generalize bs [] = sb0 at c1
   go_upto_region 7 with fail
   clear c1 f1
   generalize w5.setCell ⟨x, 0, none⟩ (.string (bs s2)) = w6 at X6 ⊢
   refine wp_region_lit ?_
   refine wpList_valS (v := ?_) (by kernel_rfl) ?_ ?_
   rotate_left 1
   ·(go_simp; try with_reducible rfl)
   try simp only [Act.put, tA, tZ, tS]
   refine wpList_callG (by kernel_rfl) fun K hK => ?_
   go_simp
   refine (C3.out _ X6.out.rd).mono ?_
   rintro e w7 ⟨rfl, R3, K3⟩
   refine hK _ _ ?_
   clear hK K
   try simp only [Act.put, tA, tZ, tS]
   have X7 := Lib.hid (X6.out.call XR.out R3 K3)
   clear R3 K3 X6 C3
   refine wpList_valG (by kernel_rfl) (ex_field fE2 (.tmp 6) rfl x 0 rfl) ?_
   try simp only [Act.put, tA, tZ, tS]
   refine wpList_unitG (by kernel_rfl) (ex_store 37 (.tmp 33) (.tmp 32) rfl x 2 32 (bv (idOf s3)) rfl rfl (X7.out.blk.there 2 32 (by omega)) sz30 (fun _ _ => rfl)) ?_
   try simp only [Act.put, tA, tZ, tS]
   have X8 := Lib.hid (X7.out.id (f' := idOf s3) XR.out)
   clear X7
   generalize w7.setCells x 2 (arr 32 (bv (idOf s3))).toList = w8 at X8 ⊢
   refine wpList_nil ?_
   go_upto_region 8 with fail
   have HO : w8.ownsRow w.heap.size 164 34 v k (arr (k * 34) (ec (upE es k ⟨s2, n1, idOf s3⟩))).toList ∧ w.heap.size ≤ w8.heap.size := by
    refine ⟨owns_congr (owns_keep hT.out.row X8.out.keep fun g hg => ⟨fun h => hT.out.apart (h ▸ hg), fun h => ?_⟩) (by rw [ec_up]), Nat.le_trans hT.out.keep.size X8.out.keep.size⟩
    have := (own_lt hT.out.row hg).2
    have := HX.out
    omega
   obtain ⟨g, cap, w9, hap, ho9, k9, hat⟩ := app_own tEntries iEntry (arr_size 34 _) (by decide) (by decide) (arr 34 (ev ⟨s2, n1, idOf s3⟩)) (arr_congr fun j hj => (by rw [ec_at _ _ _ hj, upE_same] : ev ⟨s2, n1, idOf s3⟩ j = ec (upE es k ⟨s2, n1, idOf s3⟩) (k * 34 + j))) (fun j => ev_one _ _) HO.1 HO.2 FEW.out
   have N := Lib.hid (QS.next (Nat.le_refl _) HX.out hT.out X8.out ho9 k9 hat ST.out.1)
   clear ho9 k9 hat HO
   refine wp_region_lit ?_
   refine wpList_valS (v := ?_) (by kernel_rfl) ?_ ?_
   rotate_left 1
   ·(go_simp; try with_reducible rfl)
   try simp only [Act.put, tA, tZ, tS]
   refine wpList_valG (by kernel_rfl) (ex_load 164 (.tmp 6) rfl x 0 34 (ev ⟨s2, n1, idOf s3⟩) rfl Tryz.underlying164 rfl szEntry X8.out.blk.at0) ?_
   try simp only [Act.put, tA, tZ, tS]
   refine wpList_valG (by kernel_rfl) (ex_bslice 130 164 (.tmp 35) rfl 34 (ev ⟨s2, n1, idOf s3⟩) rfl tEntries zEntry (by decide) (by decide)) ?_
   try simp only [Act.put, tA, tZ, tS]
   refine wpList_valG (by kernel_rfl) (ex_append (.tmp 34) (.tmp 36) 130 130 rfl rfl rfl hap) ?_
   try simp only [Act.put, tA, tZ, tS]
   refine wpList_valS (v := ?_) (by kernel_rfl) ?_ ?_
   rotate_left 1
   ·(go_simp; try with_reducible rfl)
   try simp only [Act.put, tA, tZ, tS]
   refine wpList_nil ?_
   have M1 : Hid (rdM l.length w9 w.heap.size < rdM l.length wr w.heap.size) := by
    show _ < _
    rw [rqM_of N.out.rd, M0.out]
    have h1 := HP.out
    have h2 := ST.out.2
    split
    ·rename_i h3; have := h2 h3; omega
    ·omega
   clear hap X8 hT
   go_wp2
   go_roundw
   case rel => exact ⟨_, _, _, _, _, rfl, N⟩
   case measure => exact M1.out
  ·have h5 : endOf l.length p e ≠ 5 := by
    unfold endOf
    split
    ·exact hT.out.pi.five
    ·split
     ·rename_i a b; exact absurd ⟨by omega, b⟩ he
     ·decide
   have PE := Lib.hid (hT.out.pi.end h5)
   obtain ⟨q, hq⟩ : ∃ q, q = endOf l.length p e := ⟨_, rfl⟩
   have HE := Lib.hid (fun W (h : Rq W w.heap.size l p e) => qend_any h)
   rw [← hq] at HE PE
   clear h5 hq
   have ways : (e ≠ 0 ∧ (e == 0) = false) ∨ (e = 0 ∧ (sb.size : Int) ≤ (p : Int)) := by
    by_cases c : e = 0
    ·right; refine ⟨c, ?_⟩
     have : ¬ p < l.length := fun h => he ⟨c, h⟩
     have := SZ.out
     omega
    ·left; exact ⟨c, by simpa using c⟩
   clear he
   rcases ways with ⟨w1', w2'⟩ | ⟨rfl, w2'⟩
   all_goals
    go_wp2_with fail
    refine (HE.out _ hT.out.rd).mono ?_
    rintro e2 w2 ⟨rfl, hB2⟩
    have T2 := Lib.hid (hT.out.below hB2)
    clear hB2 HE hT c0 c1 c2 w2'
    by_cases h0 : q = 0
    ·subst h0
     have few : Hid (k ≤ 140737488355328) := by show k ≤ _; have := T2.out.pi.cnt; have := HL.out; omega
     have HO := qents_any es v k w2 (owns_row T2.out.row) few.out (fun i hi => by have := T2.out.pi.names i hi; omega)
     by_cases ht : isTree l
     ·have hok : entsOk es k := (PE.out.1.2 ht).2
      have IT := Lib.hid (PE.out.2 rfl hok)
      rw [decide_eq_true hok] at HO
      have HTB := Lib.hid (fun (W : World) (h : Row W v 34 (ec es) k) => treebody_any es v k W h hok.1 (fun i hi => (hok.2.1 i hi).1.2.1))
      rw [← IT.out.2, ← SB.out] at HTB
      have HT := Lib.hid ht
      clear few hok ht PE
      go_wp2_with fail
      refine HO.mono ?_
      rintro e2 w3 ⟨rfl, hB3⟩
      have T3 := Lib.hid (T2.out.below hB3)
      clear hB3 HO T2
      go_wp2_with fail
      refine (HTB.out _ (owns_row T3.out.row)).mono ?_
      rintro e2 w4 ⟨rfl, hB4⟩
      have T4 := Lib.hid (T3.out.below hB4)
      clear hB4 HTB T3
      go_wp2
      go_ret2
      exact ⟨es, k, v, by rw [decide_eq_true HT.out]; rfl, owns_row T4.out.row, fun _ => IT.out, owns_fresh T4.out.row, T4.out.grown⟩
     ·have hok : ¬ entsOk es k := fun h => ht (PE.out.1.1 ⟨rfl, h⟩)
      rw [decide_eq_false hok] at HO
      have HT := Lib.hid ht
      clear few hok ht PE
      go_wp2_with fail
      refine HO.mono ?_
      rintro e2 w3 ⟨rfl, hB3⟩
      have T3 := Lib.hid (T2.out.below hB3)
      clear hB3 HO T2
      go_wp2
      go_ret2
      exact ⟨es, 0, .slice none 0 0, by rw [decide_eq_false HT.out]; rfl, Or.inl ⟨none, 0, rfl, rfl⟩, fun h => absurd h HT.out, Fresh.nil _, T3.out.grown⟩
    ·have d0 : (q != 0) = true := by simpa using h0
     have HT : Hid (¬ isTree l) := fun h => h0 (PE.out.1.2 h).1
     clear h0 PE
     go_wp2
     go_ret2
     exact ⟨es, 0, .slice none 0 0, by rw [decide_eq_false HT.out]; rfl, Or.inl ⟨none, 0, rfl, rfl⟩, fun h => absurd h HT.out, Fresh.nil _, T2.out.grown⟩
end Go.Proofs.YtnmjcpoobabjgaaGreatDoor
