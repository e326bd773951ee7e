import Derived.Test.YtlbclfponongbaaV7
import Derived.Lib.BufferWrite
import Derived.Deep.RegionLaw
/- Ids read. -/
namespace Go.Proofs.Ytlbclfponongbaa
open Go.RowKit
/- the bytes of an id read -/
def idOf (s : List UInt8) (i : Nat) : UInt8 := s.getD i 0
theorem sz5 : (Try.prog.info? 5).map (·.size) = some 1 := by kernel_rfl
theorem copy_id (w : World) (b E : Nat) (t : List UInt8) (ht : t.length ≤ 32) (hB : Blk w b E 32 (bv fun _ => 0)) :
    (Builtin.copy_ #[53, 9] 3 #[.slice (some ⟨b, 0, none⟩) 32 32, .string (bs t)]).run Try.prog w = .ok (goInt t.length) (w.setRow b (arr 32 (bv (idOf t)))) := by
  have h := Lib.run_copy_row_string (P := Try.prog) w 53 9 3 5 b 0 32 32 (bs t) (arr 32 (bv fun _ => 0)) E t25 sz5 hB (by rw [bs_size]; exact ht) (by rw [bs_size, arr_size]; omega)
  rw [bs_size] at h
  refine h.trans (congrArg (fun c => Result.ok (goInt t.length) (w.setRow b c)) ?_)
  have e0 : (Lib.byteCells (bs t).data.toList) = cbs t := by simp [Lib.byteCells, bs, cbs]; intro b _; rfl
  rw [e0, List.take_zero, List.nil_append, Nat.zero_add]
  apply Array.ext_getElem?
  intro i
  by_cases hi : i < 32
  · rw [arr_get _ _ _ hi, List.getElem?_toArray]
    by_cases hit : i < t.length
    · rw [List.getElem?_append_left (by rw [cbs_length]; exact hit)]
      simp [cbs, bv, idOf, hit]
    · rw [List.getElem?_append_right (by rw [cbs_length]; omega), cbs_length, List.getElem?_drop, Array.getElem?_toList, show t.length + (i - t.length) = i by omega, arr_get _ _ _ hi]
      simp only [bv, idOf]
      rw [List.getD_eq_getElem?_getD, List.getElem?_eq_none (by omega)]; rfl
  · rw [Array.getElem?_eq_none (by rw [List.size_toArray, List.length_append, cbs_length, List.length_drop]; have := arr_size 32 (bv fun _ => 0); simp; omega), Array.getElem?_eq_none (by rw [arr_size]; omega)]
/- a copy's run as a step of a region that draws -/
theorem step_copy_run {P : Program} {ops : Array Oper} {o : Oper} {a : Act} {w : World} {K : Act → World → Prop} {Q : Exit → Act → World → Prop} {E : Prop}
    (hg : o.guard = none) (s x : Operand) (t u : TypeId) (hop : o.op = Op.call { callee := Callee.builtin Builtin.copy, args := #[s, x], argTypes := #[t, u] })
    (vs vx v' : Value) (w' : World) (hs : a.eval s = vs) (hx : a.eval x = vx) (hrun : (Builtin.copy_ #[t, u] o.type #[vs, vx]).run P w = .ok v' w')
    (hK : K (a.put o.dst v') w') :
    if Region.wanted o (yielded ops a.tmps) = true then Oper.wp P o a w K Q else E := by
  have hw : Region.wanted o (yielded ops a.tmps) = true := by simp [Region.wanted, hg]
  rw [if_pos hw]
  unfold Oper.wp
  simp [execOp, hop, resolve, invoke, builtin, hs, hx, hrun, Result.andThen]
  exact hK
theorem rRaw_len (n : Nat) (l : List UInt8) (p : Nat) (e : Int) : (rRaw n l p e).1.length ≤ n := by
  unfold rRaw
  split
  · simp
  · split
    · simp
    · split
      · simp
      · simp; omega
theorem Keep.setRowNew {K : Nat → Prop} {a w : World} (h : Keep K a w) {g : Nat} (hg : a.heap.size ≤ g) (cs : Array Value) : Keep K a (w.setRow g cs) :=
  ⟨h.os, h.tape, h.output, by simp; exact h.size, fun k hk hl => by rw [setRow_other w g k cs (by omega)]; exact h.block k hk hl⟩
set_option maxHeartbeats 400000 in
set_option maxRecDepth 100000 in
theorem rid_any {w : World} {r : Nat} {l p e} (h : Rd w r l p e) (hp : p ≤ l.length) (hl : l.length ≤ 281474976710656) :
    Calls Try.prog 69 #[.pointer (some ⟨r, 0, none⟩)] w fun v w' => v = .returned (.agg (arr 32 (bv (idOf (rRaw 32 l p e).1)))) ∧ Rd w' r l (rRaw 32 l p e).2.1 (rRaw 32 l p e).2.2 ∧ Keep (fun k => k ≠ r) w w' := by
  have H : Hid (∀ W, Rd W r l p e → Calls Try.prog 12 #[.pointer (some ⟨r, 0, none⟩), .int .i64 32] W fun v w' => v = .returned (.string (bs (rRaw 32 l p e).1)) ∧ Rd w' r l (rRaw 32 l p e).2.1 (rRaw 32 l p e).2.2 ∧ Keep (fun k => k ≠ r) W w') := fun W hW => rraw_any 32 hW hp hl
  have ht := rRaw_len 32 l p e
  obtain ⟨t, q, e2, hraw⟩ : ∃ t q e2, rRaw 32 l p e = (t, q, e2) := ⟨_, _, _, rfl⟩
  have ht2 : t.length ≤ 32 := by have := ht; rw [show ((32 : Nat) : Int) = 32 from rfl, hraw] at this; exact this
  rw [hraw] at H ⊢
  clear hraw ht hp hl
  dsimp only at H ⊢
  have hr := h.lt
  have B0 : Blk ((w.alloc (.cells (arr 32 (bv fun _ => 0)) 35)).alloc (.cells (arr 32 (bv fun _ => 0)) 35)) w.heap.size 35 32 (bv fun _ => 0) := Blk.newAt _ (heap_alloc2_old w _ _) rfl
  have B1 : Blk ((w.alloc (.cells (arr 32 (bv fun _ => 0)) 35)).alloc (.cells (arr 32 (bv fun _ => 0)) 35)) (w.heap.size + 1) 35 32 (bv fun _ => 0) := Blk.newAt _ (heap_alloc2_new w _ _) rfl
  have KW : Keep (fun k => k ≠ r) w ((w.alloc (.cells (arr 32 (bv fun _ => 0)) 35)).alloc (.cells (arr 32 (bv fun _ => 0)) 35)) := ((Keep.refl _ w).alloc _).alloc _
  have RW : Rd ((w.alloc (.cells (arr 32 (bv fun _ => 0)) 35)).alloc (.cells (arr 32 (bv fun _ => 0)) 35)) r l p e := h.keep (((Keep.refl (fun _ => True) w).alloc _).alloc _) trivial
  have HA := Lib.hid (And.intro ht2 hr)
  have HB := Lib.hid (And.intro B0 (And.intro B1 (And.intro KW RW)))
  clear ht2 hr h B0 B1 KW RW
  go_enter Try.func69, Try.ntmps69
  go_wp2_with fail
  change Code.wp Try.prog _ _ _ ((w.alloc (.cells (arr 32 (bv fun _ => 0)) 35)).alloc (.cells (arr 32 (bv fun _ => 0)) 35))
  generalize (w.alloc (.cells (arr 32 (bv fun _ => 0)) 35)).alloc (.cells (arr 32 (bv fun _ => 0)) 35) = W at HB ⊢
  generalize hz : w.heap.size = z at HA HB ⊢
  have HZ := Lib.hid hz
  clear hz
  go_region_law (go_simp; go_at_call 12; refine (H.out W.drew HB.out.2.2.2).mono ?_; rintro v w1 ⟨rfl, g1, g2⟩; have hc := copy_id w1 (z + 1) 35 t HA.out.1 (g2.blk (by have := HA.out.2; omega) HB.out.2.1))
  have B1 : Blk (w1.setRow (z + 1) (arr 32 (bv (idOf t)))) (z + 1) 35 32 (bv (idOf t)) := (show Blk w1 (z + 1) 35 32 (bv fun _ => 0) from g2.blk (by have := HA.out.2; omega) HB.out.2.1).setRow _
  have B0 : Blk (w1.setRow (z + 1) (arr 32 (bv (idOf t)))) z 35 32 (bv fun _ => 0) := (show Blk w1 z 35 32 (bv fun _ => 0) from g2.blk (by have := HA.out.2; omega) HB.out.1).setRowOther _ _ (by omega)
  have G1 : Hid (Rd ((w1.setRow (z + 1) (arr 32 (bv (idOf t)))).setRow z (arr 32 (bv (idOf t)))) r l q e2) := by
    refine g1.keep (((Keep.refl (fun k => k = r) w1).setRow (fun h => ?_) _).setRow (fun h => ?_) _) rfl
    · have := HA.out.2; omega
    · have := HA.out.2; omega
  have G2 : Hid (Keep (fun k => k ≠ r) w ((w1.setRow (z + 1) (arr 32 (bv (idOf t)))).setRow z (arr 32 (bv (idOf t))))) :=
    (((HB.out.2.2.1.trans (Keep.drew (Keep.refl _ _))).trans g2).setRowNew (by rw [HZ.out]; omega) _).setRowNew (by rw [HZ.out]; omega) _
  clear g1 g2 hc
  generalize w1.setRow (z + 1) (arr 32 (bv (idOf t))) = w2 at B1 B0 G1 G2 ⊢
  have B2 := B0.setRow (bv (idOf t))
  go_wp2_with (first | (refine wpList_load_blk rfl 35 (.tmp 3) rfl (z + 1) rfl 35 32 (bv (idOf t)) B1 _ ty30 rfl sz30 ?_) | (refine wpList_store_blk rfl 35 (.tmp 2) (.tmp 8) rfl z 32 (bv (idOf t)) (bv fun _ => 0) rfl rfl 35 B0 sz30 (fun _ _ => rfl) ?_))
  generalize w2.setRow z (arr 32 (bv (idOf t))) = w3 at B2 G1 G2 ⊢
  exact bodyPost_ret (v := .agg (arr 32 (bv (idOf t)))) (results_blk rfl _ _ z 35 32 _ B2 _ rfl ty30 rfl sz30) rfl ⟨rfl, G1.out, G2.out⟩
end Go.Proofs.Ytlbclfponongbaa
