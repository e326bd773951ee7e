import Derived.Test.YtlbclfponongbaaGreatDoorQ1m
import Derived.Test.YtlbclfponongbaaGreatDoorQ3
/- The reference's reader: an id. -/
namespace Go.Proofs.YtlbclfponongbaaGreatDoor
open Go.RowKit
theorem ty9s : Tryz.prog.underlying 9 = some .string := by kernel_rfl
theorem idx_bs (t : List UInt8) (k : Nat) (h : k < t.length) (w : World) : (Instr.index 9 (.string (bs t)) (.int .i64 (k : Int))).run Tryz.prog w = .ok (.int .u8 ((idOf t k).toNat : Int)) w := by
  have hs : (bs t).size = t.length := bs_size t
  have e : idOf t k = (bs t)[k]'(by omega) := by
    unfold idOf bs
    rw [List.getD_eq_getElem?_getD, List.getElem?_eq_getElem h]
    simp
    rfl
  rw [e]
  have hai : (asIntOf (.int .i64 (k : Int))).run Tryz.prog w = .ok (.i64, (k : Int)) w := rfl
  simp [Instr.index, run_underlying ty9s, hai, hs, h]
def fill (t : List UInt8) (k j : Nat) : UInt8 := if j < k then idOf t j else 0
theorem fill_zero (t : List UInt8) : bv (fill t 0) = bv fun _ => 0 := by funext j; unfold bv fill; rw [if_neg (by omega)]
theorem fill_next (t : List UInt8) (k j : Nat) : bv (fill t (k + 1)) j = if j = k then .int .u8 ((idOf t k).toNat : Int) else bv (fill t k) j := by
  unfold bv fill
  by_cases c : j = k
  · subst c; rw [if_pos rfl, if_pos (by omega)]; rfl
  · rw [if_neg c]
    by_cases d : j < k
    · rw [if_pos d, if_pos (by omega)]
    · rw [if_neg d, if_neg (by omega)]
theorem fill_all (t : List UInt8) (j : Nat) : bv (fill t t.length) j = bv (idOf t) j := by
  unfold bv fill
  by_cases d : j < t.length
  · rw [if_pos d]
  · rw [if_neg d]
    unfold idOf
    rw [List.getD_eq_getElem?_getD, List.getElem?_eq_none (by omega)]; rfl
set_option maxHeartbeats 1000000 in
set_option maxRecDepth 100000 in
theorem qid_any {w : World} {r : Nat} {l p e} (h : Rq w r l p e) (hp : p ≤ l.length) (hl : l.length ≤ 281474976710656) :
    Calls Tryz.prog 32 #[.pointer (some ⟨r, 0, none⟩)] w fun v w' => v = .returned (.agg (arr 32 (bv (idOf (rRaw 32 l p e).1)))) ∧ Rq w' r l (rRaw 32 l p e).2.1 (rRaw 32 l p e).2.2 ∧ Keep (fun k => k ≠ r) w w' := by
  have H : Hid (∀ W, Rq W r l p e → Calls Tryz.prog 54 #[.pointer (some ⟨r, 0, none⟩), .int .i64 32] W fun v w' => v = .returned (.string (bs (rRaw 32 l p e).1)) ∧ Rq w' r l (rRaw 32 l p e).2.1 (rRaw 32 l p e).2.2 ∧ Keep (fun k => k ≠ r) W w') := fun W hW => qraw_any 32 hW hp hl
  have ht := rRaw_len 32 l p e
  obtain ⟨t, q, e2, hraw⟩ : ∃ t q e2, rRaw 32 l p e = (t, q, e2) := ⟨_, _, _, rfl⟩
  have ht2 : t.length ≤ 32 := by have := ht; rw [show ((32 : Nat) : Int) = 32 from rfl, hraw] at this; exact this
  rw [hraw] at H ⊢
  clear hraw ht hp hl
  dsimp only at H ⊢
  have hr := h.lt
  have B0 : Blk (w.alloc (.cells (arr 32 (bv fun _ => 0)) 29)) w.heap.size 29 32 (bv fun _ => 0) := Blk.newAt _ (heap_alloc_new w _) rfl
  have KW : Keep (fun k => k ≠ r) w (w.alloc (.cells (arr 32 (bv fun _ => 0)) 29)) := (Keep.refl _ w).alloc _
  have RW : Rq (w.alloc (.cells (arr 32 (bv fun _ => 0)) 29)) r l p e := h.keep ((Keep.refl (fun _ => True) w).alloc _) trivial
  have HA : Hid (t.length ≤ 32 ∧ r < w.heap.size) := ⟨ht2, hr⟩
  have HB : Hid (Blk (w.alloc (.cells (arr 32 (bv fun _ => 0)) 29)) w.heap.size 29 32 (bv fun _ => 0) ∧ Keep (fun k => k ≠ r) w (w.alloc (.cells (arr 32 (bv fun _ => 0)) 29)) ∧ Rq (w.alloc (.cells (arr 32 (bv fun _ => 0)) 29)) r l p e) := ⟨B0, KW, RW⟩
  have IX := Lib.hid (idx_bs t)
  have SZ : Hid ((bs t).size = t.length) := bs_size t
  clear ht2 hr h B0 KW RW
  go_enter Tryz.func32, Tryz.ntmps32
  go_wp2_with fail
  change Calls Tryz.prog _ _ (w.alloc (.cells (arr 32 (bv fun _ => 0)) 29)) _
  generalize w.alloc (.cells (arr 32 (bv fun _ => 0)) 29) = W at HB ⊢
  generalize hz : w.heap.size = z at HA HB ⊢
  have HZ := Lib.hid hz
  clear hz
  refine (H.out W HB.out.2.2).mono ?_
  rintro v w1 ⟨rfl, g1, g2⟩
  have R1 := Lib.hid g1
  have K1 := Lib.hid (HB.out.2.1.trans g2)
  have B1 : Hid (Blk w1 z 29 32 (bv fun _ => 0)) := g2.blk (by have := HA.out.2; omega) HB.out.1
  clear g1 g2 HB H
  obtain ⟨sb, hsb⟩ : ∃ sb, sb = bs t := ⟨_, rfl⟩
  rw [← hsb] at IX SZ ⊢
  clear hsb
  go_wp2
  change Code.wp Tryz.prog _ _ _ (w1.alloc (.cells (arr 32 (bv fun _ => 0)) 29))
  have S0 : Hid (Blk (w1.alloc (.cells (arr 32 (bv fun _ => 0)) 29)) w1.heap.size 29 32 (bv (fill t 0)) ∧ Blk (w1.alloc (.cells (arr 32 (bv fun _ => 0)) 29)) z 29 32 (bv fun _ => 0) ∧ Rq (w1.alloc (.cells (arr 32 (bv fun _ => 0)) 29)) r l q e2 ∧ Keep (fun k => k ≠ r) w (w1.alloc (.cells (arr 32 (bv fun _ => 0)) 29))) :=
    ⟨by rw [fill_zero]; exact Blk.newAt _ (heap_alloc_new _ _) rfl, B1.out.alloc _, R1.out.keep ((Keep.refl (fun _ => True) w1).alloc _) trivial, K1.out.alloc _⟩
  have HN : Hid (z < w1.heap.size ∧ r < w1.heap.size ∧ w.heap.size ≤ w1.heap.size) := ⟨B1.out.lt, R1.out.lt, K1.out.size⟩
  clear B1 R1 K1
  generalize w1.alloc (.cells (arr 32 (bv fun _ => 0)) 29) = w2 at S0 ⊢
  generalize w1.heap.size = x at S0 HN ⊢
  go_loopw [5] (fun v wr => ∃ k : Nat, v = .int .i64 (k : Int) ∧ k ≤ t.length ∧ Hid (Blk wr x 29 32 (bv (fill t k)) ∧ Blk wr z 29 32 (bv fun _ => 0) ∧ Rq wr r l q e2 ∧ Keep (fun k => k ≠ r) w wr)) (fun v _ => t.length - (intOf v).toNat)
  case atStart => exact ⟨0, rfl, Nat.zero_le _, S0⟩
  case round =>
    obtain ⟨k, rfl, hk, hS⟩ := hrel
    clear S0
    by_cases hlt : k < t.length
    · have t32 := HA.out.1
      have sz := SZ.out
      have ix := IX.out k hlt
      have c1 : wr.cell? ⟨x, k, none⟩ = some (cb (fill t k k)) := hS.out.1.cell k (by omega)
      have f1 : wr.frozen? ⟨x, k, none⟩ = false := hS.out.1.frozen k
      have yk : (k : Int) < (sb.size : Int) := by omega
      have zk : (0 : Int) ≤ (k : Int) := by omega
      have y32 : (k : Int) < 32 := by omega
      have w1' : IntKind.i64.wrap ((k : Int) + 1) = (k : Int) + 1 := IntWalk.i64_in _ (by omega)
      obtain ⟨vb, hvb⟩ : ∃ vb, vb = Value.int .u8 ((idOf t k).toNat : Int) := ⟨_, rfl⟩
      have F2 : Hid (Blk (wr.setCell ⟨x, k, none⟩ (.int .u8 ((idOf t k).toNat : Int))) x 29 32 (bv (fill t (k + 1))) ∧ Blk (wr.setCell ⟨x, k, none⟩ (.int .u8 ((idOf t k).toNat : Int))) z 29 32 (bv fun _ => 0) ∧ Rq (wr.setCell ⟨x, k, none⟩ (.int .u8 ((idOf t k).toNat : Int))) r l q e2 ∧ Keep (fun k => k ≠ r) w (wr.setCell ⟨x, k, none⟩ (.int .u8 ((idOf t k).toNat : Int)))) := by
        obtain ⟨h1, h2, h3, h4⟩ := hS.out
        have hn := HN.out
        have hz := HZ.out
        refine ⟨(h1.set k _).congr fun j _ => (fill_next t k j).symm, h2.setOther _ _ (show x ≠ z by omega), h3.keep ((Keep.refl (fun b => b ≠ x) wr).setCell (fun h => h rfl) _) (by omega), ⟨h4.os, h4.tape, h4.output, by simp; exact h4.size, fun b hb hl => ?_⟩⟩
        rw [heap_setCell_other _ _ _ _ (by show b ≠ x; omega)]
        exact h4.block b hb hl
      clear hvb vb hS sz
      generalize cb (fill t k k) = v0 at c1
      go_wp2
      go_roundw
      case rel => exact ⟨k + 1, by go_num, by omega, F2⟩
      case measure => simp [intOf]; omega
    · have e : k = t.length := by omega
      subst e
      have yk : (sb.size : Int) ≤ (t.length : Int) := by have := SZ.out; omega
      obtain ⟨h1, h2, h3, h4⟩ := hS.out
      have B5 : Blk wr x 29 32 (bv (idOf t)) := h1.congr fun j _ => fill_all t j
      have G1 : Hid (Rq (wr.setRow z (arr 32 (bv (idOf t)))) r l q e2) := h3.keep ((Keep.refl (fun b => b ≠ z) wr).setRow (fun h => h rfl) _) (by have := HA.out.2; omega)
      have G2 : Hid (Keep (fun k => k ≠ r) w (wr.setRow z (arr 32 (bv (idOf t))))) := h4.setRowNew (by rw [HZ.out]; omega) _
      have B2 := h2.setRow (bv (idOf t))
      clear h1 h3 h4 hS
      go_wp2_with (first | (refine wpList_load_blk rfl 29 (.tmp 4) rfl x rfl 29 32 (bv (idOf t)) B5 _ ty30 rfl sz30 ?_) | (refine wpList_store_blk rfl 29 (.tmp 2) (.tmp 19) rfl z 32 (bv (idOf t)) (bv fun _ => 0) rfl rfl 29 h2 sz30 (fun _ _ => rfl) ?_))
      generalize wr.setRow z (arr 32 (bv (idOf t))) = w3 at B2 G1 G2 ⊢
      exact bodyPost_ret (v := .agg (arr 32 (bv (idOf t)))) (results_blk rfl _ _ z 29 32 _ B2 _ rfl ty30 rfl sz30) rfl ⟨rfl, G1.out, G2.out⟩
end Go.Proofs.YtlbclfponongbaaGreatDoor
/- The reference's reader: a text. -/
namespace Go.Proofs.YtlbclfponongbaaGreatDoor
open Go.RowKit
theorem raw_empty {n : Int} {l : List UInt8} {p : Nat} {e : Int} (h : (rRaw n l p e).2.2 ≠ 0) : (rRaw n l p e).1 = [] := by
  unfold rRaw at h ⊢
  split
  · rfl
  · split
    · rfl
    · split
      · rfl
      · rename_i a b c
        rw [if_neg a, if_neg b, if_neg c] at h
        exact absurd rfl h
set_option maxHeartbeats 400000 in
set_option maxRecDepth 100000 in
theorem qtext_any {w : World} {r : Nat} {l p e} (most : Int) (h : Rq w r l p e) (hp : p ≤ l.length) (hl : l.length ≤ 281474976710656) :
    Calls Tryz.prog 31 #[.pointer (some ⟨r, 0, none⟩), .int .i64 most] w fun v w' => v = .returned (.string (bs (rText most l p e).1)) ∧ Rq w' r l (rText most l p e).2.1 (rText most l p e).2.2 ∧ Keep (fun k => k ≠ r) w w' := by
  by_cases he : e = 0
  · subst he
    obtain ⟨c0, c1, c2, f1, f2⟩ := h.cells
    have H1 := qnum_any most h hp hl
    have hq := rNum_le most l p 0 hp
    obtain ⟨n, q, er, hnum⟩ : ∃ n q er, rNum most l p 0 = (n, q, er) := ⟨_, _, _, rfl⟩
    rw [hnum] at H1 hq
    have H2 : Hid (∀ w1, Rq w1 r l q er → Calls Tryz.prog 54 #[.pointer (some ⟨r, 0, none⟩), .int .i64 n] w1 fun v w' => v = .returned (.string (bs (rRaw n l q er).1)) ∧ Rq w' r l (rRaw n l q er).2.1 (rRaw n l q er).2.2 ∧ Keep (fun k => k ≠ r) w1 w') := fun w1 h1 => qraw_any (n : Int) h1 hq hl
    have ht : rText most l p 0 = if (rRaw n l q er).2.2 ≠ 0 then ((rRaw n l q er).1, p, (rRaw n l q er).2.2) else rRaw n l q er := by
      unfold rText
      rw [if_neg (by simp), hnum]
    have hem := @raw_empty (n : Int) l q er
    rw [ht]
    clear ht hnum hq hp hl h c0 f1 f2
    obtain ⟨s, q2, e2, hraw⟩ : ∃ s q2 e2, rRaw n l q er = (s, q2, e2) := ⟨_, _, _, rfl⟩
    rw [hraw] at H2 hem ⊢
    clear hraw
    dsimp only at H1 H2 hem ⊢
    by_cases h2 : e2 = 0
    · subst h2
      rw [if_neg (by simp)]
      dsimp only
      clear hem
      generalize bs s = sb at H2 ⊢
      go_enter Tryz.func31, Tryz.ntmps31
      go_wp2_with fail
      refine H1.mono ?_
      rintro v w1 ⟨rfl, hR1, hK1⟩
      have HK1 := Lib.hid hK1
      have HR1 := Lib.hid hR1
      clear hK1 hR1 c1 c2
      go_wp2_with fail
      refine (H2.out w1 HR1.out).mono ?_
      rintro v w2 ⟨rfl, hR2, hK2⟩
      have HK2 := Lib.hid (HK1.out.trans hK2)
      have HR2 := Lib.hid hR2
      obtain ⟨-, c1b, c2, f1, -⟩ := hR2.cells
      clear hK2 hR2
      go_wp2
      go_ret
      exact ⟨rfl, HR2.out, HK2.out⟩
    · rw [if_pos h2]
      dsimp only
      obtain rfl := hem h2
      have h3 : (e2 != 0) = true := by simp [h2]
      clear h2 hem
      have EB : Hid (bs [] = (⟨#[]⟩ : ByteArray)) := rfl
      rw [EB.out] at H2 ⊢
      go_enter Tryz.func31, Tryz.ntmps31
      go_wp2_with fail
      refine H1.mono ?_
      rintro v w1 ⟨rfl, hR1, hK1⟩
      have HK1 := Lib.hid hK1
      have HR1 := Lib.hid hR1
      clear hK1 hR1 c1 c2
      go_wp2_with fail
      refine (H2.out w1 HR1.out).mono ?_
      rintro v w2 ⟨rfl, hR2, hK2⟩
      have HK2 := Lib.hid (HK1.out.trans hK2)
      have HR2 := Lib.hid hR2
      obtain ⟨-, c1b, c2, f1, -⟩ := hR2.cells
      clear hK2 hR2
      go_wp2
      go_ret
      exact ⟨rfl, HR2.out.setAt p, HK2.out.setCell (fun h => h rfl) _⟩
  · have hr : rText most l p e = ([], p, e) := by unfold rText; rw [if_pos he]
    have HR : Hid (Rq w r l p e) := h
    obtain ⟨-, -, c2, -, -⟩ := h.cells
    have te : (e != 0) = true := by simpa using he
    rw [hr]
    clear hr h
    go_enter Tryz.func31, Tryz.ntmps31
    go_wp2
    go_ret
    exact ⟨rfl, HR.out, Keep.refl _ _⟩
end Go.Proofs.YtlbclfponongbaaGreatDoor
