import Derived.Test.YtnmjcpoobabjgaaGreatDoorFfm
import Derived.Lib.BufferWrite
import Derived.Deep.RegionLaw
import Derived.Lib.Bytealg
import Derived.Test.YtnmjcpoobabjgaaGreatDoorPbm
import Derived.Laws.StructEq
set_option linter.unusedVariables false
set_option linter.unusedSimpArgs false
/- Bytes, texts and ids read. -/
namespace Go.Proofs.YtnmjcpoobabjgaaGreatDoor
open Go.RowKit
/- bytes read: the bytes, the place, the error -/
def rRaw (n : Int) (l : List UInt8) (p : Nat) (e : Int) : List UInt8 × Nat × Int :=
  if e ≠ 0 then ([], p, e) else if n < 0 then ([], p, 2) else if (l.length : Int) - p < n then ([], p, 3) else ((l.drop p).take n.toNat, p + n.toNat, 0)
theorem rRaw_le (n : Int) (l : List UInt8) (p : Nat) (e : Int) (hp : p ≤ l.length) : (rRaw n l p e).2.1 ≤ l.length := by
  unfold rRaw
  split
  · exact hp
  · split
    · exact hp
    · split
      · exact hp
      · show p + n.toNat ≤ l.length
        omega
set_option maxHeartbeats 400000 in
set_option maxRecDepth 100000 in
theorem rraw_any {w : World} {r : Nat} {l p e} (n : Int) (h : Rd w r l p e) (hp : p ≤ l.length) (hl : l.length ≤ 281474976710656) :
    Calls Tryz.prog 60 #[.pointer (some ⟨r, 0, none⟩), .int .i64 n] w fun v w' => v = .returned (.string (bs (rRaw n l p e).1)) ∧ Rd w' r l (rRaw n l p e).2.1 (rRaw n l p e).2.2 ∧ Keep (fun k => k ≠ r) w w' := by
  have HE := err_any h
  have HR : Hid (∀ q, Rd (w.drewN q) r l p e) := fun q => h.keep ((Keep.refl (fun _ => True) w).drewN q) trivial
  by_cases he : e = 0
  · subst he
    obtain ⟨c0, c1, c2, f1, f2⟩ := h.cells
    have hz := bs_size l
    by_cases hn : n < 0
    · have hr : rRaw n l p 0 = ([], p, 2) := by unfold rRaw; rw [if_neg (by simp), if_pos hn]
      rw [hr]
      clear hr h hz hp hl
      go_enter Tryz.func60, Tryz.ntmps60
      go_wp2_with fail
      refine HE.mono ?_
      rintro v w1 ⟨rfl, rfl⟩
      go_wp2
      go_ret
      exact ⟨rfl, (HR.out 0).setErr 2, keep_ne_at (q := 0) _⟩
    · have t1 : decide (n < 0) = false := by simp; omega
      by_cases hs : (l.length : Int) - p < n
      · have hr : rRaw n l p 0 = ([], p, 3) := by unfold rRaw; rw [if_neg (by simp), if_neg hn, if_pos hs]
        rw [hr]
        clear hr h
        generalize bs l = sb at c0 hz
        have w1 : IntKind.i64.wrap ((sb.size : Int) - (p : Int)) = (sb.size : Int) - (p : Int) := IntWalk.i64_in _ (by omega)
        have t2 : (sb.size : Int) - (p : Int) < n := by omega
        clear hz hp hl hn hs
        go_enter Tryz.func60, Tryz.ntmps60
        go_wp2_with fail
        refine HE.mono ?_
        rintro v w1 ⟨rfl, rfl⟩
        go_wp2
        go_quiet (fail)
        go_wp2
        go_ret
        exact ⟨rfl, (HR.out _).setErr 3, keep_ne_at _ _⟩
      · obtain ⟨m, rfl⟩ : ∃ m : Nat, n = m := ⟨n.toNat, by omega⟩
        have hr : rRaw (m : Int) l p 0 = ((l.drop p).take m, p + m, 0) := by unfold rRaw; rw [if_neg (by simp), if_neg hn, if_neg hs]; rfl
        rw [hr]
        have hx := bs_extract l p (p + m)
        rw [show p + m - p = m by omega] at hx
        rw [← hx]
        clear hr h hx
        generalize bs l = sb at c0 hz ⊢
        have w1 : IntKind.i64.wrap ((sb.size : Int) - (p : Int)) = (sb.size : Int) - (p : Int) := IntWalk.i64_in _ (by omega)
        have t2 : decide ((sb.size : Int) - (p : Int) < (m : Int)) = false := by simp; omega
        have t3 : (p : Int) + (m : Int) ≤ (sb.size : Int) := by omega
        have t4 : (p : Int) ≤ (p : Int) + (m : Int) := by omega
        have t5 : (sb.size : Int) ≤ 281474976710656 := by omega
        have HX : Hid (((p + m : Nat) : Int) = (p : Int) + (m : Int)) := by show ((p + m : Nat) : Int) = (p : Int) + (m : Int); omega
        clear hz hp hl hn hs
        go_enter Tryz.func60, Tryz.ntmps60
        go_wp2_with fail
        refine HE.mono ?_
        rintro v w1 ⟨rfl, rfl⟩
        go_wp2
        go_quiet (fail)
        go_wp2
        go_quiet (fail)
        go_wp2
        go_ret
        exact ⟨rfl, (HR.out _).setAt (p + m), keep_ne_at _ _⟩
  · have hr : rRaw n l p e = ([], p, e) := by unfold rRaw; rw [if_pos he]
    rw [hr]
    clear hr h
    go_enter Tryz.func60, Tryz.ntmps60
    go_wp2_with fail
    refine HE.mono ?_
    rintro v w1 ⟨rfl, rfl⟩
    go_wp2
    go_ret
    exact ⟨rfl, HR.out 0, Keep.refl _ _⟩
/- a text read: the bytes, the place, the error -/
def rText (most : Int) (l : List UInt8) (p : Nat) (e : Int) : List UInt8 × Nat × Int :=
  if e ≠ 0 then ([], p, e) else
  if (rRaw (rNum most l p 0).1 l (rNum most l p 0).2.1 (rNum most l p 0).2.2).2.2 ≠ 0 then
    ((rRaw (rNum most l p 0).1 l (rNum most l p 0).2.1 (rNum most l p 0).2.2).1, p, (rRaw (rNum most l p 0).1 l (rNum most l p 0).2.1 (rNum most l p 0).2.2).2.2)
  else rRaw (rNum most l p 0).1 l (rNum most l p 0).2.1 (rNum most l p 0).2.2
theorem rText_le (most : Int) (l : List UInt8) (p : Nat) (e : Int) (hp : p ≤ l.length) : (rText most l p e).2.1 ≤ l.length := by
  unfold rText
  split
  · exact hp
  · split
    · exact hp
    · exact rRaw_le _ _ _ _ (rNum_le _ _ _ _ hp)
set_option maxHeartbeats 400000 in
set_option maxRecDepth 100000 in
theorem rtext_any {w : World} {r : Nat} {l p e} (most : Int) (h : Rd w r l p e) (hp : p ≤ l.length) (hl : l.length ≤ 281474976710656) :
    Calls Tryz.prog 68 #[.pointer (some ⟨r, 0, none⟩), .int .i64 most] w fun v w' => v = .returned (.string (bs (rText most l p e).1)) ∧ Rd w' r l (rText most l p e).2.1 (rText most l p e).2.2 ∧ Keep (fun k => k ≠ r) w w' := by
  have HE := err_any h
  by_cases he : e = 0
  · subst he
    obtain ⟨c0, c1, c2, f1, f2⟩ := h.cells
    have H1 := rnum_any most h hp hl
    have hq := rNum_le most l p 0 hp
    obtain ⟨n, q, er, hnum⟩ : ∃ n q er, rNum most l p 0 = (n, q, er) := ⟨_, _, _, rfl⟩
    rw [hnum] at H1 hq
    have H2 : Hid (∀ w1, Rd w1 r l q er → Calls Tryz.prog 60 #[.pointer (some ⟨r, 0, none⟩), .int .i64 n] w1 fun v w' => v = .returned (.string (bs (rRaw n l q er).1)) ∧ Rd w' r l (rRaw n l q er).2.1 (rRaw n l q er).2.2 ∧ Keep (fun k => k ≠ r) w1 w') := fun w1 h1 => rraw_any (n : Int) h1 hq hl
    have ht : rText most l p 0 = if (rRaw n l q er).2.2 ≠ 0 then ((rRaw n l q er).1, p, (rRaw n l q er).2.2) else rRaw n l q er := by
      unfold rText
      rw [if_neg (by simp), hnum]
    rw [ht]
    clear ht hnum hq hp hl h c0 c2 f1 f2
    obtain ⟨s, q2, e2, hraw⟩ : ∃ s q2 e2, rRaw n l q er = (s, q2, e2) := ⟨_, _, _, rfl⟩
    rw [hraw] at H2 ⊢
    clear hraw
    dsimp only at H1 H2 ⊢
    by_cases h2 : e2 = 0
    · subst h2
      rw [if_neg (by simp)]
      dsimp only
      generalize bs s = sb at H2 ⊢
      go_enter Tryz.func68, Tryz.ntmps68
      go_wp2_with fail
      refine HE.mono ?_
      rintro v w1 ⟨rfl, rfl⟩
      go_wp2_with fail
      refine H1.mono ?_
      rintro v w1 ⟨rfl, hR1, hK1⟩
      have HK1 := Lib.hid hK1
      have HR1 := Lib.hid hR1
      clear hK1 hR1
      go_wp2_with fail
      refine (H2.out w1 HR1.out).mono ?_
      rintro v w2 ⟨rfl, hR2, hK2⟩
      have HK2 := Lib.hid (HK1.out.trans hK2)
      have HR2 := Lib.hid hR2
      obtain ⟨-, c1b, c2, f1, -⟩ := hR2.cells
      clear hK2 hR2
      go_wp2
      go_ret
      exact ⟨rfl, HR2.out, HK2.out⟩
    · rw [if_pos h2]
      dsimp only
      generalize bs s = sb at H2 ⊢
      have h3 : (e2 != 0) = true := by simp [h2]
      clear h2
      go_enter Tryz.func68, Tryz.ntmps68
      go_wp2_with fail
      refine HE.mono ?_
      rintro v w1 ⟨rfl, rfl⟩
      go_wp2_with fail
      refine H1.mono ?_
      rintro v w1 ⟨rfl, hR1, hK1⟩
      have HK1 := Lib.hid hK1
      have HR1 := Lib.hid hR1
      clear hK1 hR1
      go_wp2_with fail
      refine (H2.out w1 HR1.out).mono ?_
      rintro v w2 ⟨rfl, hR2, hK2⟩
      have HK2 := Lib.hid (HK1.out.trans hK2)
      have HR2 := Lib.hid hR2
      obtain ⟨-, c1b, c2, f1, -⟩ := hR2.cells
      clear hK2 hR2
      go_wp2
      go_ret
      exact ⟨rfl, HR2.out.setAt p, HK2.out.setCell (fun h => h rfl) _⟩
  · have hr : rText most l p e = ([], p, e) := by unfold rText; rw [if_pos he]
    have HR : Hid (Rd w r l p e) := h
    rw [hr]
    clear hr h
    go_enter Tryz.func68, Tryz.ntmps68
    go_wp2_with fail
    refine HE.mono ?_
    rintro v w1 ⟨rfl, rfl⟩
    go_wp2
    go_ret
    exact ⟨rfl, HR.out, Keep.refl _ _⟩
end Go.Proofs.YtnmjcpoobabjgaaGreatDoor
/- Ids read. -/
namespace Go.Proofs.YtnmjcpoobabjgaaGreatDoor
open Go.RowKit
/- the bytes of an id read -/
def idOf (s : List UInt8) (i : Nat) : UInt8 := s.getD i 0
theorem sz5 : (Tryz.prog.info? 5).map (·.size) = some 1 := by kernel_rfl
theorem copy_id (w : World) (b E : Nat) (t : List UInt8) (ht : t.length ≤ 32) (hB : Blk w b E 32 (bv fun _ => 0)) :
    (Builtin.copy_ #[63, 9] 3 #[.slice (some ⟨b, 0, none⟩) 32 32, .string (bs t)]).run Tryz.prog w = .ok (goInt t.length) (w.setRow b (arr 32 (bv (idOf t)))) := by
  have h := Lib.run_copy_row_string (P := Tryz.prog) w 63 9 3 5 b 0 32 32 (bs t) (arr 32 (bv fun _ => 0)) E t25 sz5 hB (by rw [bs_size]; exact ht) (by rw [bs_size, arr_size]; omega)
  rw [bs_size] at h
  refine h.trans (congrArg (fun c => Result.ok (goInt t.length) (w.setRow b c)) ?_)
  have e0 : (Lib.byteCells (bs t).data.toList) = cbs t := by simp [Lib.byteCells, bs, cbs]; intro b _; rfl
  rw [e0, List.take_zero, List.nil_append, Nat.zero_add]
  apply Array.ext_getElem?
  intro i
  by_cases hi : i < 32
  · rw [arr_get _ _ _ hi, List.getElem?_toArray]
    by_cases hit : i < t.length
    · rw [List.getElem?_append_left (by rw [cbs_length]; exact hit)]
      simp [cbs, bv, idOf, hit]
    · rw [List.getElem?_append_right (by rw [cbs_length]; omega), cbs_length, List.getElem?_drop, Array.getElem?_toList, show t.length + (i - t.length) = i by omega, arr_get _ _ _ hi]
      simp only [bv, idOf]
      rw [List.getD_eq_getElem?_getD, List.getElem?_eq_none (by omega)]; rfl
  · rw [Array.getElem?_eq_none (by rw [List.size_toArray, List.length_append, cbs_length, List.length_drop]; have := arr_size 32 (bv fun _ => 0); simp; omega), Array.getElem?_eq_none (by rw [arr_size]; omega)]
/- a copy's run as a step of a region that draws -/
theorem rRaw_len (n : Nat) (l : List UInt8) (p : Nat) (e : Int) : (rRaw n l p e).1.length ≤ n := by
  unfold rRaw
  split
  · simp
  · split
    · simp
    · split
      · simp
      · simp; omega
theorem Keep.setRowNew {K : Nat → Prop} {a w : World} (h : Keep K a w) {g : Nat} (hg : a.heap.size ≤ g) (cs : Array Value) : Keep K a (w.setRow g cs) :=
  ⟨h.os, h.tape, h.output, by simp; exact h.size, fun k hk hl => by rw [setRow_other w g k cs (by omega)]; exact h.block k hk hl⟩
set_option maxHeartbeats 400000 in
set_option maxRecDepth 100000 in
theorem rid_any {w : World} {r : Nat} {l p e} (h : Rd w r l p e) (hp : p ≤ l.length) (hl : l.length ≤ 281474976710656) :
    Calls Tryz.prog 125 #[.pointer (some ⟨r, 0, none⟩)] w fun v w' => v = .returned (.agg (arr 32 (bv (idOf (rRaw 32 l p e).1)))) ∧ Rd w' r l (rRaw 32 l p e).2.1 (rRaw 32 l p e).2.2 ∧ Keep (fun k => k ≠ r) w w' := by
  have H : Hid (∀ W, Rd W r l p e → Calls Tryz.prog 60 #[.pointer (some ⟨r, 0, none⟩), .int .i64 32] W fun v w' => v = .returned (.string (bs (rRaw 32 l p e).1)) ∧ Rd w' r l (rRaw 32 l p e).2.1 (rRaw 32 l p e).2.2 ∧ Keep (fun k => k ≠ r) W w') := fun W hW => rraw_any 32 hW hp hl
  have ht := rRaw_len 32 l p e
  obtain ⟨t, q, e2, hraw⟩ : ∃ t q e2, rRaw 32 l p e = (t, q, e2) := ⟨_, _, _, rfl⟩
  have ht2 : t.length ≤ 32 := by have := ht; rw [show ((32 : Nat) : Int) = 32 from rfl, hraw] at this; exact this
  rw [hraw] at H ⊢
  clear hraw ht hp hl
  dsimp only at H ⊢
  have hr := h.lt
  have B0 : Blk ((w.alloc (.cells (arr 32 (bv fun _ => 0)) 37)).alloc (.cells (arr 32 (bv fun _ => 0)) 37)) w.heap.size 37 32 (bv fun _ => 0) := Blk.newAt _ (heap_alloc2_old w _ _) rfl
  have B1 : Blk ((w.alloc (.cells (arr 32 (bv fun _ => 0)) 37)).alloc (.cells (arr 32 (bv fun _ => 0)) 37)) (w.heap.size + 1) 37 32 (bv fun _ => 0) := Blk.newAt _ (heap_alloc2_new w _ _) rfl
  have KW : Keep (fun k => k ≠ r) w ((w.alloc (.cells (arr 32 (bv fun _ => 0)) 37)).alloc (.cells (arr 32 (bv fun _ => 0)) 37)) := ((Keep.refl _ w).alloc _).alloc _
  have RW : Rd ((w.alloc (.cells (arr 32 (bv fun _ => 0)) 37)).alloc (.cells (arr 32 (bv fun _ => 0)) 37)) r l p e := h.keep (((Keep.refl (fun _ => True) w).alloc _).alloc _) trivial
  have HA := Lib.hid (And.intro ht2 hr)
  have HB := Lib.hid (And.intro B0 (And.intro B1 (And.intro KW RW)))
  clear ht2 hr h B0 B1 KW RW
  go_enter Tryz.func125, Tryz.ntmps125
  go_wp2_with fail
  change Code.wp Tryz.prog _ _ _ ((w.alloc (.cells (arr 32 (bv fun _ => 0)) 37)).alloc (.cells (arr 32 (bv fun _ => 0)) 37))
  generalize (w.alloc (.cells (arr 32 (bv fun _ => 0)) 37)).alloc (.cells (arr 32 (bv fun _ => 0)) 37) = W at HB ⊢
  generalize hz : w.heap.size = z at HA HB ⊢
  have HZ := Lib.hid hz
  clear hz
  go_region_law (go_simp; go_at_call 60; refine (H.out W.drew HB.out.2.2.2).mono ?_; rintro v w1 ⟨rfl, g1, g2⟩; have hc := copy_id w1 (z + 1) 37 t HA.out.1 (g2.blk (by have := HA.out.2; omega) HB.out.2.1))
  have B1 : Blk (w1.setRow (z + 1) (arr 32 (bv (idOf t)))) (z + 1) 37 32 (bv (idOf t)) := (show Blk w1 (z + 1) 37 32 (bv fun _ => 0) from g2.blk (by have := HA.out.2; omega) HB.out.2.1).setRow _
  have B0 : Blk (w1.setRow (z + 1) (arr 32 (bv (idOf t)))) z 37 32 (bv fun _ => 0) := (show Blk w1 z 37 32 (bv fun _ => 0) from g2.blk (by have := HA.out.2; omega) HB.out.1).setRowOther _ _ (by omega)
  have G1 : Hid (Rd ((w1.setRow (z + 1) (arr 32 (bv (idOf t)))).setRow z (arr 32 (bv (idOf t)))) r l q e2) := by
    refine g1.keep (((Keep.refl (fun k => k = r) w1).setRow (fun h => ?_) _).setRow (fun h => ?_) _) rfl
    · have := HA.out.2; omega
    · have := HA.out.2; omega
  have G2 : Hid (Keep (fun k => k ≠ r) w ((w1.setRow (z + 1) (arr 32 (bv (idOf t)))).setRow z (arr 32 (bv (idOf t))))) :=
    (((HB.out.2.2.1.trans (Keep.drew (Keep.refl _ _))).trans g2).setRowNew (by rw [HZ.out]; omega) _).setRowNew (by rw [HZ.out]; omega) _
  clear g1 g2 hc
  generalize w1.setRow (z + 1) (arr 32 (bv (idOf t))) = w2 at B1 B0 G1 G2 ⊢
  have B2 := B0.setRow (bv (idOf t))
  go_wp2_with (first | (refine wpList_load_blk rfl 37 (.tmp 3) rfl (z + 1) rfl 37 32 (bv (idOf t)) B1 _ ty30 rfl sz30 ?_) | (refine wpList_store_blk rfl 37 (.tmp 2) (.tmp 8) rfl z 32 (bv (idOf t)) (bv fun _ => 0) rfl rfl 37 B0 sz30 (fun _ _ => rfl) ?_))
  generalize w2.setRow z (arr 32 (bv (idOf t))) = w3 at B2 G1 G2 ⊢
  exact bodyPost_ret (v := .agg (arr 32 (bv (idOf t)))) (results_blk rfl _ _ z 37 32 _ B2 _ rfl ty30 rfl sz30) rfl ⟨rfl, G1.out, G2.out⟩
end Go.Proofs.YtnmjcpoobabjgaaGreatDoor
/- What is read of what was written: plain facts on lists. -/
namespace Go.Proofs.YtnmjcpoobabjgaaGreatDoor
theorem drop_add (l : List UInt8) (p q : Nat) : l.drop (p + q) = (l.drop p).drop q := by rw [List.drop_drop]
theorem drop_len2 {l X : List UInt8} {p : Nat} (h : l.drop p = X) (hp : p ≤ l.length) : l.length = p + X.length := by
  have := congrArg List.length h
  rw [List.length_drop] at this
  omega
theorem num_read {most : Int} {l R : List UInt8} {p n : Nat} (h : l.drop p = dg n ++ R) (hn : n ≤ 1099511627775) (hm : (n : Int) ≤ most) : rNum most l p 0 = (n, p + (dg n).length, 0) := by
  unfold rNum
  rw [if_neg (by simp), h, rd_dg most R n 0 0 (by omega) (by omega) (by simpa using hm) (Or.inr rfl)]
  simp
theorem raw_read {l s R : List UInt8} {p : Nat} {n : Int} (h : l.drop p = s ++ R) (hp : p ≤ l.length) (hn : n = s.length) : rRaw n l p 0 = (s, p + s.length, 0) := by
  subst hn
  have hl := drop_len2 h hp
  rw [List.length_append] at hl
  unfold rRaw
  rw [if_neg (by simp), if_neg (by omega), if_neg (by omega), h]
  simp
theorem tx_len (s : List UInt8) : (tx s).length = (dg (clamp s.length)).length + s.length := by unfold tx; rw [List.length_append]
theorem text_read {most : Int} {l s R : List UInt8} {p : Nat} (h : l.drop p = tx s ++ R) (hp : p ≤ l.length) (hs : s.length ≤ 1099511627775) (hm : (s.length : Int) ≤ most) : rText most l p 0 = (s, p + (tx s).length, 0) := by
  have hc : clamp (s.length : Int) = s.length := by rw [clamp_of (by omega) (by omega)]; simp
  have hl := drop_len2 h hp
  rw [tx_len]
  rw [List.length_append, tx_len] at hl
  unfold tx at h
  rw [hc] at h hl ⊢
  rw [List.append_assoc] at h
  have h1 := num_read (most := most) h hs hm
  have h2 : rRaw (s.length : Int) l (p + (dg s.length).length) 0 = (s, p + (dg s.length).length + s.length, 0) := raw_read (R := R) (by rw [drop_add, h]; simp) (by omega) rfl
  unfold rText
  rw [if_neg (by simp), h1]
  dsimp only
  rw [h2, if_neg (by simp), Nat.add_assoc]
theorem id_get (f : Nat → UInt8) : ∀ i, i < 32 → idOf (idL f) i = f i := by
  intro i hi
  unfold idOf idL
  rw [List.getD_eq_getElem?_getD, List.getElem?_map, List.getElem?_range hi]
  rfl
end Go.Proofs.YtnmjcpoobabjgaaGreatDoor
/- Objects, plainly: entries, commits, bodies, which may be. -/
namespace Go.Proofs.YtnmjcpoobabjgaaGreatDoor
open Classical
/- an entry -/
structure Ent where
  name : List UInt8
  kind : Int
  id : Nat → UInt8
instance : Inhabited Ent := ⟨⟨[], 0, fun _ => 0⟩⟩
/- a commit: the tree, how many parents, the parents, the text -/
structure Com where
  tree : Nat → UInt8
  n : Nat
  par : Nat → Nat → UInt8
  text : List UInt8
def same32 (f g : Nat → UInt8) : Prop := ∀ i, i < 32 → f i = g i
theorem idL_congr {f g : Nat → UInt8} (h : same32 f g) : idL f = idL g := by
  unfold idL
  apply List.map_congr_left
  intro i hi
  exact h i (List.mem_range.1 hi)
theorem idL_idOf (s : List UInt8) (h : s.length = 32) : idL (idOf s) = s := by
  apply List.ext_getElem?
  intro i
  by_cases hi : i < 32
  · unfold idL idOf
    rw [List.getElem?_map, List.getElem?_range hi, List.getElem?_eq_getElem (by omega)]
    simp [List.getD_eq_getElem?_getD, List.getElem?_eq_getElem (show i < s.length by omega)]
  · rw [List.getElem?_eq_none (by rw [idL_length]; omega), List.getElem?_eq_none (by omega)]
/- the bytes of an entry, of a list of them -/
def eb (e : Ent) : List UInt8 := dg (clamp e.kind) ++ tx e.name ++ idL e.id
def tb (es : Nat → Ent) : Nat → List UInt8
  | 0 => []
  | k + 1 => tb es k ++ eb (es k)
/- a name that may be -/
def nok (b : UInt8) : Prop := 33 ≤ b.toNat ∧ b.toNat ≤ 126 ∧ b.toNat ≠ 47
def nameOk (s : List UInt8) : Prop := 1 ≤ s.length ∧ s.length ≤ 32 ∧ ∀ b ∈ s, nok b
def kindOk (k : Int) : Prop := k = 1 ∨ k = 2
/- entries that may be -/
def entsOk (es : Nat → Ent) (n : Nat) : Prop := n ≤ 32 ∧ (∀ i, i < n → nameOk (es i).name ∧ kindOk (es i).kind) ∧ ∀ i, i + 1 < n → Op.bytesLess (es i).name (es (i + 1)).name = true
/- a commit that may be -/
def comOk (c : Com) : Prop := c.n ≤ 4 ∧ c.text.length ≤ 64 ∧ ∀ i j, i < j → j < c.n → ¬ same32 (c.par i) (c.par j)
/- the bytes of the first k parents, of a commit -/
def pb (p : Nat → Nat → UInt8) : Nat → List UInt8
  | 0 => []
  | k + 1 => pb p k ++ idL (p k)
def comB (c : Com) : List UInt8 := idL c.tree ++ dg c.n ++ pb c.par c.n ++ tx c.text
def IsTree (l : List UInt8) (es : Nat → Ent) (n : Nat) : Prop := entsOk es n ∧ l = tb es n
def IsCom (l : List UInt8) (c : Com) : Prop := comOk c ∧ l = comB c
/- an object that may be -/
def objOk (k : Int) (l : List UInt8) : Prop := l.length ≤ 4096 ∧ (k = 1 ∨ (k = 2 ∧ ∃ es n, IsTree l es n) ∨ (k = 3 ∧ ∃ c, IsCom l c))
theorem dg_le6 {n : Nat} (h : n ≤ 1099511627775) : (dg n).length ≤ 6 := by
  have := dg_le n 0 (by omega) (by omega)
  omega
theorem tb_congr {es fs : Nat → Ent} : ∀ {n : Nat}, (∀ i, i < n → eb (es i) = eb (fs i)) → tb es n = tb fs n
  | 0, _ => rfl
  | k + 1, h => by
    show tb es k ++ _ = tb fs k ++ _
    rw [tb_congr (fun i hi => h i (by omega)), h k (by omega)]
theorem tb_split (es : Nat → Ent) (k : Nat) : ∀ m, k ≤ m → ∃ R, tb es m = tb es k ++ R
  | 0, h => ⟨[], by rw [show k = 0 by omega]; simp⟩
  | m + 1, h => by
    by_cases c : k ≤ m
    · obtain ⟨R, hR⟩ := tb_split es k m c
      exact ⟨R ++ eb (es m), by show tb es m ++ _ = _; rw [hR, List.append_assoc]⟩
    · exact ⟨[], by rw [show k = m + 1 by omega]; simp⟩
theorem pb_split (p : Nat → Nat → UInt8) (k : Nat) : ∀ m, k ≤ m → ∃ R, pb p m = pb p k ++ R
  | 0, h => ⟨[], by rw [show k = 0 by omega]; simp⟩
  | m + 1, h => by
    by_cases c : k ≤ m
    · obtain ⟨R, hR⟩ := pb_split p k m c
      exact ⟨R ++ idL (p m), by show pb p m ++ _ = _; rw [hR, List.append_assoc]⟩
    · exact ⟨[], by rw [show k = m + 1 by omega]; simp⟩
theorem pb_len (p : Nat → Nat → UInt8) : ∀ k, (pb p k).length = 32 * k
  | 0 => rfl
  | k + 1 => by
    show (pb p k ++ idL (p k)).length = _
    rw [List.length_append, pb_len p k, idL_length]; omega
theorem pb_congr {p q : Nat → Nat → UInt8} : ∀ {n : Nat}, (∀ i, i < n → same32 (p i) (q i)) → pb p n = pb q n
  | 0, _ => rfl
  | k + 1, h => by
    show pb p k ++ _ = pb q k ++ _
    rw [pb_congr (fun i hi => h i (by omega)), idL_congr (h k (by omega))]
theorem eb_pos (e : Ent) : 0 < (eb e).length := by
  unfold eb
  rw [List.length_append, List.length_append, idL_length]; omega
theorem tb_pos (es : Nat → Ent) {k m : Nat} (h : k < m) : (tb es k).length < (tb es m).length := by
  obtain ⟨R, hR⟩ := tb_split es (k + 1) m h
  rw [hR]
  show _ < (tb es k ++ eb (es k) ++ R).length
  rw [List.length_append, List.length_append]
  have := eb_pos (es k)
  omega
/- a text of which one is read, and read on: lengths of what is left -/
theorem kind_clamp {k : Int} (h : kindOk k) : clamp k = k.toNat ∧ (k.toNat : Int) = k ∧ k.toNat ≤ 2 := by
  rcases h with rfl | rfl <;> decide
/- three readings, one behind the other, of an entry: what there is, is read -/
theorem read_ent {l R : List UInt8} {p : Nat} {e : Ent} (hp : p ≤ l.length) (h : l.drop p = eb e ++ R) (hk : kindOk e.kind) (hn : e.name.length ≤ 32) :
    rNum 2 l p 0 = (e.kind.toNat, p + (dg e.kind.toNat).length, 0) ∧ rText 32 l (p + (dg e.kind.toNat).length) 0 = (e.name, p + (dg e.kind.toNat).length + (tx e.name).length, 0) ∧
    rRaw 32 l (p + (dg e.kind.toNat).length + (tx e.name).length) 0 = (idL e.id, p + (eb e).length, 0) := by
  obtain ⟨k1, k2, k3⟩ := kind_clamp hk
  have hl := drop_len2 h hp
  unfold eb at h hl ⊢
  rw [k1] at h hl ⊢
  rw [List.length_append, List.length_append, List.length_append, idL_length] at hl
  have e1 : l.drop (p + (dg e.kind.toNat).length) = tx e.name ++ (idL e.id ++ R) := by rw [drop_add, h]; simp
  have e2 : l.drop (p + (dg e.kind.toNat).length + (tx e.name).length) = idL e.id ++ R := by rw [drop_add, e1]; simp
  refine ⟨num_read (R := tx e.name ++ (idL e.id ++ R)) (by rw [h]; simp) (by omega) (by omega), text_read e1 (by omega) (by omega) (by omega), ?_⟩
  rw [raw_read (n := 32) e2 (by omega) (by rw [idL_length]; rfl)]
  rw [List.length_append, List.length_append]
  congr 2
  omega
/- and what was read without an error, was there -/
theorem num_there {most : Int} {l : List UInt8} {p n q : Nat} (hp : p ≤ l.length) (h : rNum most l p 0 = (n, q, 0)) : l.take q = l.take p ++ dg n ∧ n ≤ 1099511627775 ∧ (n : Int) ≤ most ∧ q = p + (dg n).length ∧ q ≤ l.length := by
  unfold rNum at h
  rw [if_neg (by simp)] at h
  split at h
  · rename_i hne
    simp only [Prod.mk.injEq] at h
    exact absurd h.2.2 hne
  · rename_i hz
    simp only [Prod.mk.injEq, and_true] at h
    obtain ⟨h1, h2⟩ := h
    obtain ⟨m, rest, g1, g2, g3, g4, g5, g6⟩ := rd_one most (l.drop p) 0 0 (rd most (l.drop p) 0 0).1 (rd most (l.drop p) 0 0).2.1 (by rw [← Classical.not_not.1 hz])
    have hm : m = n := by rw [← h1, g2]; omega
    subst hm
    have hq : q = p + (dg m).length := by rw [← h2, g3]; omega
    have hlen := congrArg List.length g1
    rw [List.length_drop, List.length_append] at hlen
    refine ⟨?_, by omega, by omega, hq, by omega⟩
    rw [hq, List.take_add, g1]
    simp
theorem raw_there {n : Int} {l s : List UInt8} {p q : Nat} (hp : p ≤ l.length) (hn : 0 ≤ n) (h : rRaw n l p 0 = (s, q, 0)) : l.take q = l.take p ++ s ∧ s.length = n.toNat ∧ q = p + n.toNat ∧ q ≤ l.length := by
  unfold rRaw at h
  rw [if_neg (by simp), if_neg (by omega)] at h
  split at h
  · simp at h
  · rename_i hz
    simp only [Prod.mk.injEq, and_true] at h
    obtain ⟨h1, h2⟩ := h
    refine ⟨?_, by rw [← h1, List.length_take, List.length_drop]; omega, by omega, by omega⟩
    rw [← h1, ← h2, List.take_add]
theorem text_there {most : Int} {l s : List UInt8} {p q : Nat} (hp : p ≤ l.length) (h : rText most l p 0 = (s, q, 0)) : l.take q = l.take p ++ tx s ∧ (s.length : Int) ≤ most ∧ s.length ≤ 1099511627775 ∧ q = p + (tx s).length ∧ q ≤ l.length := by
  unfold rText at h
  rw [if_neg (by simp)] at h
  obtain ⟨n, q1, e1, hnum⟩ : ∃ n q1 e1, rNum most l p 0 = (n, q1, e1) := ⟨_, _, _, rfl⟩
  rw [hnum] at h
  dsimp only at h
  by_cases he : e1 = 0
  · subst he
    obtain ⟨t1, t2, t3, t4, t5⟩ := num_there hp hnum
    obtain ⟨s2, q2, e2, hraw⟩ : ∃ s2 q2 e2, rRaw (n : Int) l q1 0 = (s2, q2, e2) := ⟨_, _, _, rfl⟩
    rw [hraw] at h
    dsimp only at h
    by_cases he2 : e2 = 0
    · subst he2
      rw [if_neg (by simp)] at h
      simp only [Prod.mk.injEq, and_true] at h
      obtain ⟨rfl, rfl⟩ := h
      obtain ⟨u1, u2, u3, u4⟩ := raw_there (by omega) (by omega) hraw
      have hs : s2.length = n := by omega
      have ht : tx s2 = dg n ++ s2 := by unfold tx; rw [hs, clamp_of (by omega) (by omega)]; simp
      refine ⟨by rw [u1, t1, ht, List.append_assoc], by omega, by omega, ?_, u4⟩
      rw [ht, List.length_append]; omega
    · rw [if_pos he2] at h
      simp only [Prod.mk.injEq] at h
      exact absurd h.2.2 he2
  · have e : rRaw (n : Int) l q1 e1 = ([], q1, e1) := by unfold rRaw; rw [if_pos he]
    rw [e, if_pos he] at h
    simp only [Prod.mk.injEq] at h
    exact absurd h.2.2 he
/- the errors of what is read first come through -/
theorem num_err {most : Int} {l : List UInt8} {p : Nat} {e : Int} (he : e ≠ 0) : rNum most l p e = (0, p, e) := by unfold rNum; rw [if_pos he]
theorem raw_err {n : Int} {l : List UInt8} {p : Nat} {e : Int} (he : e ≠ 0) : rRaw n l p e = ([], p, e) := by unfold rRaw; rw [if_pos he]
theorem text_err {most : Int} {l : List UInt8} {p : Nat} {e : Int} (he : e ≠ 0) : rText most l p e = ([], p, e) := by unfold rText; rw [if_pos he]
theorem num_most {most : Int} (l : List UInt8) (p : Nat) (e : Int) (h0 : 0 ≤ most) (hp : p ≤ l.length) : ((rNum most l p e).1 : Int) ≤ most := by
  by_cases he : e = 0
  · subst he
    by_cases h2 : (rNum most l p 0).2.2 = 0
    · exact (num_there hp (show rNum most l p 0 = ((rNum most l p 0).1, (rNum most l p 0).2.1, 0) from Prod.ext rfl (Prod.ext rfl h2))).2.2.1
    · unfold rNum at h2 ⊢
      rw [if_neg (by simp)] at h2 ⊢
      split
      · exact h0
      · rename_i h3
        rw [if_neg h3] at h2
        exact absurd rfl h2
  · rw [num_err he]; exact h0
end Go.Proofs.YtnmjcpoobabjgaaGreatDoor
/- Whether a name may be: the program's answer, and the reference's. -/
namespace Go.Proofs.YtnmjcpoobabjgaaGreatDoor
open Go.RowKit
def nms (l : List UInt8) : Bool := l.all fun b => decide (33 ≤ b.toNat) && decide (b.toNat ≤ 126) && decide (b.toNat ≠ 47)
theorem nms_iff (l : List UInt8) : nms l = true ↔ ∀ b ∈ l, nok b := by
 unfold nms nok
 rw [List.all_eq_true]
 constructor
 ·intro h b hb; have := h b hb; simp at this; exact ⟨this.1.1, this.1.2, this.2⟩
 ·intro h b hb; have := h b hb; simp; exact ⟨⟨this.1, this.2.1⟩, this.2.2⟩
def nmB (l : List UInt8) : Bool := decide (1 ≤ l.length) && (decide (l.length ≤ 32) && nms l)
theorem nmB_iff (l : List UInt8) : nmB l = true ↔ nameOk l := by
 unfold nmB nameOk
 rw [Bool.and_eq_true, Bool.and_eq_true, decide_eq_true_iff, decide_eq_true_iff, nms_iff]
theorem nms_take (l : List UInt8) (k : Nat) (hk : k < l.length) (b : UInt8) (hb : l[k]'hk = b) : nms (l.take (k + 1)) = (nms (l.take k) && nms [b]) := by
 rw [List.take_succ_eq_append_getElem hk, hb]
 unfold nms
 rw [List.all_append]
theorem nms_bad (l : List UInt8) (k : Nat) (hk : k < l.length) (b : UInt8) (hb : l[k]'hk = b) (h : nms [b] = false) : nms l = false := by
 rw [Bool.eq_false_iff]
 intro h2
 rw [nms_iff] at h2
 rw [Bool.eq_false_iff] at h
 refine h ((nms_iff _).2 fun c hc => ?_)
 have : c = b := by simpa using hc
 subst this
 exact h2 _ (hb ▸ List.getElem_mem hk)
theorem nms_one (b : UInt8) : nms [b] = (decide (33 ≤ b.toNat) && decide (b.toNat ≤ 126) && decide (b.toNat ≠ 47)) := by unfold nms; simp
set_option maxHeartbeats 1000000 in
set_option maxRecDepth 100000 in
theorem oname_any (l : List UInt8) (w : World) (hl : l.length ≤ 281474976710656) :
  Calls Tryz.prog 139 #[.string (bs l)] w fun e w' => e = .returned (.bool (nmB l)) ∧ w = w' := by
 have hz := bs_size l
 have hat : Hid (∀ k (h1 : k < (bs l).size) (h2 : k < l.length), (bs l)[k]'h1 = l[k]'h2) := fun k h1 h2 => by simp [bs]; rfl
 obtain ⟨sb, hsb⟩ : ∃ sb, sb = bs l := ⟨_, rfl⟩
 rw [← hsb] at hz hat ⊢
 clear hsb
 by_cases h1 : l.length < 1
 ·have e : nmB l = false := by unfold nmB; rw [decide_eq_false (by omega)]; rfl
  have t1 : (sb.size : Int) < 1 := by omega
  rw [e]
  clear h1 hz hat e
  go_enter Tryz.func139, Tryz.ntmps139
  go_wp2
  go_ret
  exact ⟨rfl, rfl⟩
 ·have t1 : decide ((sb.size : Int) < 1) = false := by simp; omega
  by_cases h2 : 32 < l.length
  ·have e : nmB l = false := by unfold nmB; rw [decide_eq_false (p := l.length ≤ 32) (by omega)]; simp
   have t2 : (32 : Int) < (sb.size : Int) := by omega
   rw [e]
   clear h1 h2 hz hat e
   go_enter Tryz.func139, Tryz.ntmps139
   go_wp2
   go_ret
   exact ⟨rfl, rfl⟩
  ·have t2 : decide ((32 : Int) < (sb.size : Int)) = false := by simp; omega
   have e : nmB l = nms l := by unfold nmB; rw [decide_eq_true (by omega), decide_eq_true (by omega)]; rfl
   rw [e]
   have HZ := Lib.hid hz
   clear e h1 hz
   go_enter Tryz.func139, Tryz.ntmps139
   go_wp2
   go_loopw [14] (fun i wr => ∃ k : Nat, k ≤ l.length ∧ i = .int .i64 k ∧ Hid (nms (l.take k) = true) ∧ w = wr) (fun i _ => l.length - (intOf i).toNat)
   case atStart => exact ⟨0, by omega, rfl, rfl, rfl⟩
   case round =>
    obtain ⟨k, hk, rfl, hT, rfl⟩ := hrel
    by_cases hlt : k < l.length
    ·have dlt : k < sb.size := by rw [HZ.out]; omega
     have hb0 := hat.out k dlt hlt
     obtain ⟨b, hb⟩ : ∃ b, sb[k]'dlt = b := ⟨_, rfl⟩
     have hb1 := Lib.hid (hb0.symm.trans hb)
     clear hb0
     have zk : (0 : Int) ≤ (k : Int) := by omega
     have yk : (k : Int) < (sb.size : Int) := by omega
     by_cases c1 : b.toNat < 33
     ·have d1 : (b.toNat : Int) < 33 := by omega
      have e : nms l = false := nms_bad l k hlt b hb1.out (by rw [nms_one, decide_eq_false (by omega)]; rfl)
      have E := Lib.hid e
      clear e c1
      go_wp2
      go_ret
      rw [E.out]
      exact ⟨rfl, rfl⟩
     ·have d1 : decide ((b.toNat : Int) < 33) = false := by simp; omega
      by_cases c2 : 126 < b.toNat
      ·have d2 : (126 : Int) < (b.toNat : Int) := by omega
       have e : nms l = false := nms_bad l k hlt b hb1.out (by rw [nms_one, decide_eq_false (p := b.toNat ≤ 126) (by omega)]; simp)
       have E := Lib.hid e
       clear e c1 c2
       go_wp2
       go_ret
       rw [E.out]
       exact ⟨rfl, rfl⟩
      ·have d2 : decide ((126 : Int) < (b.toNat : Int)) = false := by simp; omega
       by_cases c3 : b.toNat = 47
       ·have d3 : ((b.toNat : Int) == 47) = true := by simp; omega
        have e : nms l = false := nms_bad l k hlt b hb1.out (by rw [nms_one, decide_eq_false (p := b.toNat ≠ 47) (by omega)]; simp)
        have E := Lib.hid e
        clear e c1 c2 c3
        go_wp2
        go_ret
        rw [E.out]
        exact ⟨rfl, rfl⟩
       ·have d3 : ((b.toNat : Int) == 47) = false := by simp; omega
        have T2 : Hid (nms (l.take (k + 1)) = true) := by
         show nms (l.take (k + 1)) = true
         rw [nms_take l k hlt b hb1.out, hT.out, nms_one, decide_eq_true (by omega), decide_eq_true (by omega), decide_eq_true (by omega)]; rfl
        have HK : Hid (k + 1 ≤ l.length) := hlt
        clear c1 c2 c3
        go_wp2
        go_roundw
        case rel => exact ⟨k + 1, HK.out, by go_num, T2, trivial⟩
        case measure => simp [intOf]; omega
    ·have ek : k = l.length := by omega
     subst ek
     have e : nms l = true := by rw [← hT.out, List.take_length]
     have E := Lib.hid e
     have yk : (sb.size : Int) ≤ (l.length : Int) := by rw [HZ.out]; omega
     clear e hlt
     go_wp2
     go_ret
     rw [E.out]
     exact ⟨rfl, rfl⟩
set_option maxHeartbeats 1000000 in
set_option maxRecDepth 100000 in
theorem qname_any (l : List UInt8) (w : World) (hl : l.length ≤ 281474976710656) :
  Calls Tryz.prog 119 #[.string (bs l)] w fun e w' => e = .returned (.bool (nmB l)) ∧ w = w' := by
 have hz := bs_size l
 have hat : Hid (∀ k (h1 : k < (bs l).size) (h2 : k < l.length), (bs l)[k]'h1 = l[k]'h2) := fun k h1 h2 => by simp [bs]; rfl
 obtain ⟨sb, hsb⟩ : ∃ sb, sb = bs l := ⟨_, rfl⟩
 rw [← hsb] at hz hat ⊢
 clear hsb
 have HZ := Lib.hid hz
 clear hz
 have bad : Hid (nms l = false → nmB l = false) := fun h => by unfold nmB; rw [h]; simp
 go_enter Tryz.func119, Tryz.ntmps119
 go_wp2
 go_loopw [3] (fun i wr => ∃ k : Nat, k ≤ l.length ∧ i = .int .i64 k ∧ Hid (nms (l.take k) = true) ∧ w = wr) (fun i _ => l.length - (intOf i).toNat)
 case atStart => exact ⟨0, by omega, rfl, rfl, rfl⟩
 case round =>
  obtain ⟨k, hk, rfl, hT, rfl⟩ := hrel
  by_cases hlt : k < l.length
  ·have dlt : k < sb.size := by rw [HZ.out]; omega
   have hb0 := hat.out k dlt hlt
   obtain ⟨b, hb⟩ : ∃ b, sb[k]'dlt = b := ⟨_, rfl⟩
   have hb1 := Lib.hid (hb0.symm.trans hb)
   clear hb0
   have zk : (0 : Int) ≤ (k : Int) := by omega
   have yk : (k : Int) < (sb.size : Int) := by omega
   by_cases c1 : b.toNat < 33
   ·have d1 : (b.toNat : Int) < 33 := by omega
    have e := bad.out (nms_bad l k hlt b hb1.out (by rw [nms_one, decide_eq_false (by omega)]; rfl))
    have E := Lib.hid e
    clear e c1 bad
    go_wp2
    go_ret
    rw [E.out]
    exact ⟨rfl, rfl⟩
   ·have d1 : decide ((b.toNat : Int) < 33) = false := by simp; omega
    by_cases c2 : 126 < b.toNat
    ·have d2 : (126 : Int) < (b.toNat : Int) := by omega
     have e := bad.out (nms_bad l k hlt b hb1.out (by rw [nms_one, decide_eq_false (p := b.toNat ≤ 126) (by omega)]; simp))
     have E := Lib.hid e
     clear e c1 c2 bad
     go_wp2
     go_ret
     rw [E.out]
     exact ⟨rfl, rfl⟩
    ·have d2 : decide ((126 : Int) < (b.toNat : Int)) = false := by simp; omega
     by_cases c3 : b.toNat = 47
     ·have d3 : ((b.toNat : Int) == 47) = true := by simp; omega
      have e := bad.out (nms_bad l k hlt b hb1.out (by rw [nms_one, decide_eq_false (p := b.toNat ≠ 47) (by omega)]; simp))
      have E := Lib.hid e
      clear e c1 c2 c3 bad
      go_wp2
      go_ret
      rw [E.out]
      exact ⟨rfl, rfl⟩
     ·have d3 : ((b.toNat : Int) == 47) = false := by simp; omega
      have T2 : Hid (nms (l.take (k + 1)) = true) := by
       show nms (l.take (k + 1)) = true
       rw [nms_take l k hlt b hb1.out, hT.out, nms_one, decide_eq_true (by omega), decide_eq_true (by omega), decide_eq_true (by omega)]; rfl
      have HK : Hid (k + 1 ≤ l.length) := hlt
      clear c1 c2 c3
      go_wp2
      go_roundw
      case rel => exact ⟨k + 1, HK.out, by go_num, T2, trivial⟩
      case measure => simp [intOf]; omega
  ·have ek : k = l.length := by omega
   subst ek
   have e : nmB l = (decide (1 ≤ l.length) && decide (l.length ≤ 32)) := by unfold nmB; rw [show nms l = true by rw [← hT.out, List.take_length], Bool.and_true]
   have E := Lib.hid e
   clear e
   have yk : (sb.size : Int) ≤ (l.length : Int) := by rw [HZ.out]; omega
   by_cases h1 : 1 ≤ l.length
   ·have t1 : (1 : Int) ≤ (sb.size : Int) := by rw [HZ.out]; omega
    by_cases h2 : l.length ≤ 32
    ·have t2 : (sb.size : Int) ≤ 32 := by rw [HZ.out]; omega
     have F := Lib.hid (decide_eq_true h1); have G := Lib.hid (decide_eq_true h2)
     clear h1 h2 hlt
     go_wp2
     go_ret
     rw [E.out, F.out, G.out]
     exact ⟨rfl, rfl⟩
    ·have t2 : decide ((sb.size : Int) ≤ 32) = false := by rw [HZ.out]; simp; omega
     have F := Lib.hid (decide_eq_true h1); have G := Lib.hid (decide_eq_false h2)
     clear h1 h2 hlt
     go_wp2
     go_ret
     rw [E.out, F.out, G.out]
     exact ⟨rfl, rfl⟩
   ·have t1 : decide ((1 : Int) ≤ (sb.size : Int)) = false := by rw [HZ.out]; simp; omega
    have F := Lib.hid (decide_eq_false h1)
    clear h1 hlt
    go_wp2
    go_ret
    rw [E.out, F.out]
    exact ⟨rfl, rfl⟩
end Go.Proofs.YtnmjcpoobabjgaaGreatDoor
/- The order of names. -/
namespace Go.Proofs.YtnmjcpoobabjgaaGreatDoor
open Go.Op
theorem toList_bs (l : List UInt8) : (bs l).toList = l := by
  rw [Lib.toList_data]; simp [bs]
theorem bl_irrefl : ∀ a : List UInt8, bytesLess a a = false
  | [] => by unfold bytesLess; rfl
  | a :: x => by
    unfold bytesLess
    rw [bl_irrefl x]
    simp [UInt8.lt_irrefl]
theorem bl_cons (a b : UInt8) (x y : List UInt8) : bytesLess (a :: x) (b :: y) = true ↔ a < b ∨ (a = b ∧ bytesLess x y = true) := by
  conv => lhs; unfold bytesLess
  simp
theorem bl_nil (x : List UInt8) : bytesLess x [] = false := by unfold bytesLess; rfl
theorem bl_nil_cons (b : UInt8) (y : List UInt8) : bytesLess [] (b :: y) = true := by unfold bytesLess; rfl
theorem bl_trans : ∀ (a b c : List UInt8), bytesLess a b = true → bytesLess b c = true → bytesLess a c = true
  | _, [], _, h, _ => by rw [bl_nil] at h; cases h
  | _, _ :: _, [], _, h => by rw [bl_nil] at h; cases h
  | [], _ :: _, _ :: _, _, _ => bl_nil_cons _ _
  | a :: x, b :: y, c :: z, h1, h2 => by
    rw [bl_cons] at *
    rcases h1 with h1 | ⟨rfl, h1⟩
    · rcases h2 with h2 | ⟨rfl, h2⟩
      · exact Or.inl (UInt8.lt_trans h1 h2)
      · exact Or.inl h1
    · rcases h2 with h2 | ⟨rfl, h2⟩
      · exact Or.inl h2
      · exact Or.inr ⟨rfl, bl_trans x y z h1 h2⟩
theorem bl_tri : ∀ (a b : List UInt8), bytesLess a b = false → bytesLess b a = false → a = b
  | [], [], _, _ => rfl
  | [], _ :: _, h, _ => by rw [bl_nil_cons] at h; cases h
  | _ :: _, [], _, h => by rw [bl_nil_cons] at h; cases h
  | a :: x, b :: y, h1, h2 => by
    have n1 : ¬ (a < b ∨ (a = b ∧ bytesLess x y = true)) := fun h => by rw [(bl_cons a b x y).2 h] at h1; cases h1
    have n2 : ¬ (b < a ∨ (b = a ∧ bytesLess y x = true)) := fun h => by rw [(bl_cons b a y x).2 h] at h2; cases h2
    have e : a = b := by
      rcases UInt8.lt_or_eq_of_le (UInt8.not_lt.1 fun h => n1 (Or.inl h)) with h | h
      · exact absurd (Or.inl h) n2
      · exact h.symm
    subst e
    have e2 : x = y := bl_tri x y (by cases c : bytesLess x y; rfl; exact absurd (Or.inr ⟨rfl, c⟩) n1) (by cases c : bytesLess y x; rfl; exact absurd (Or.inr ⟨rfl, c⟩) n2)
    rw [e2]
theorem bl_asymm (a b : List UInt8) (h : bytesLess a b = true) : bytesLess b a = false := by
  cases c : bytesLess b a
  · rfl
  · have := bl_trans a b a h c
    rw [bl_irrefl] at this
    cases this
/- what strings.Compare tells -/
end Go.Proofs.YtnmjcpoobabjgaaGreatDoor
/- Equality of arrays of bytes. -/
namespace Go.Proofs.YtnmjcpoobabjgaaGreatDoor
open Go.RowKit
section
variable {P : Program}
theorem run_equalIn_arr8 (w : World) (d : Nat) (t e : TypeId) (n : Nat) (f g : Nat → UInt8) (ht : P.underlying t = some (.array n e)) (he : P.underlying e = some (.int .u8)) (hs : (P.info? e).map (·.size) = some 1) :
    (Op.equalIn (d + 2) t (.agg (arr n (bv f))) (.agg (arr n (bv g)))).run P w = .ok (decide (∀ i, i < n → f i = g i)) w := by
  cases hq : P.info? e with
  | none => simp [hq] at hs
  | some i =>
    have hd : i.size = 1 := by simpa [hq] using hs
    have hagg : (isAgg e).run P w = .ok false w := by
      unfold isAgg
      rw [Sem.run_bind, run_underlying he w]; rfl
    have hp : ∀ (h : Nat → UInt8) (j : Nat), j < n → (part e (arr n (bv h)) j).run P w = .ok (bv h j) w := fun h j hj => by
      unfold part
      rw [Sem.run_bind, hagg]
      simp [arr_get n (bv h) j hj]
    have hz : (sizeOf e).run P w = .ok 1 w := by simp [sizeOf, typeInfo, hq, hd]
    unfold Op.equalIn
    simp only [Sem.run_bind, run_underlying ht, Result.andThen_ok, hz, Std.Legacy.Range.forIn_eq_forIn_range', Nat.mul_one]
    have key : ∀ l : List Nat, (∀ j, j ∈ l → j < n) → (forIn l (none, ()) (fun i (_ : Option Bool × Unit) => do
            let a ← part e (arr n (bv f)) i
            let b ← part e (arr n (bv g)) i
            let r ← Op.equalIn (d + 1) e a b
            if (!r) = true then pure (ForInStep.done (some false, ())) else pure (ForInStep.yield (none, ())))).run P w = .ok (if ∀ j, j ∈ l → f j = g j then ((none : Option Bool), ()) else (some false, ())) w := by
      intro l
      induction l with
      | nil => intro _; simp
      | cons j l ih =>
        intro hl
        have hj := hl j (by simp)
        have he2 : (Op.equalIn (d + 1) e (bv f j) (bv g j)).run P w = .ok (((f j).toNat : Int) == ((g j).toNat : Int)) w := run_equalIn_int w d e .u8 .u8 _ _ he
        simp only [List.forIn_cons, Sem.run_bind, hp f j hj, hp g j hj, Result.andThen_ok, he2]
        by_cases c : f j = g j
        · have e1 : (((f j).toNat : Int) == ((g j).toNat : Int)) = true := by rw [c]; simp
          rw [e1]
          simp only [Bool.not_true, Bool.false_eq_true, if_false, Sem.run_pure, Result.andThen_ok]
          rw [ih (fun k hk => hl k (by simp [hk]))]
          have e2 : (∀ k, k ∈ j :: l → f k = g k) ↔ (∀ k, k ∈ l → f k = g k) := by simp [c]
          simp only [e2]
        · have e1 : (((f j).toNat : Int) == ((g j).toNat : Int)) = false := beq_eq_false_iff_ne.2 (fun h => c (UInt8.toNat_inj.1 (by omega)))
          rw [e1]
          simp only [Bool.not_false, if_true, Sem.run_pure, Result.andThen_ok]
          rw [if_neg (fun h => c (h j (by simp)))]
    rw [key _ (fun j hj => by simp [Std.Legacy.Range.size] at hj; omega)]
    have e3 : (∀ j, j ∈ List.range' 0 [:n].size → f j = g j) ↔ (∀ i, i < n → f i = g i) := by simp [Std.Legacy.Range.size]
    simp only [e3]
    by_cases c : ∀ i, i < n → f i = g i
    · rw [if_pos c, decide_eq_true c]; simp
    · rw [if_neg c, decide_eq_false c]; simp
theorem run_eql_arr8 (w : World) (t e : TypeId) (n : Nat) (f g : Nat → UInt8) (ht : P.underlying t = some (.array n e)) (he : P.underlying e = some (.int .u8)) (hs : (P.info? e).map (·.size) = some 1) :
    (binOp .eql t (.agg (arr n (bv f))) (.agg (arr n (bv g)))).run P w = .ok (.bool (decide (∀ i, i < n → f i = g i))) w := by
  rw [run_eql_struct, run_equalIn_arr8 w 9998 t e n f g ht he hs]; rfl
theorem run_neq_arr8 (w : World) (t e : TypeId) (n : Nat) (f g : Nat → UInt8) (ht : P.underlying t = some (.array n e)) (he : P.underlying e = some (.int .u8)) (hs : (P.info? e).map (·.size) = some 1) :
    (binOp .neq t (.agg (arr n (bv f))) (.agg (arr n (bv g)))).run P w = .ok (.bool (!decide (∀ i, i < n → f i = g i))) w := by
  rw [run_neq_struct, run_equalIn_arr8 w 9998 t e n f g ht he hs]; rfl
end
end Go.Proofs.YtnmjcpoobabjgaaGreatDoor
