import Derived.Test.YtlbclfponongbaaGreatDoorV5
import Derived.Lib.BufferWrite
import Derived.Deep.RegionLaw
/- A number read. -/
namespace Go.Proofs.YtlbclfponongbaaGreatDoor
open Go.RowKit
theorem bs_extract (l : List UInt8) (a b : Nat) : (bs l).extract a b = bs ((l.drop a).take (b - a)) := by
  apply ByteArray.ext
  rw [ByteArray.data_extract]
  show l.toArray.extract a b = ((l.drop a).take (b - a)).toArray
  simp
theorem bs_drop (l : List UInt8) (a : Nat) : (bs l).extract a (bs l).size = bs (l.drop a) := by
  rw [bs_extract, bs_size, List.take_of_length_le (by simp)]
/- a number read: the number, the place, the error -/
def rNum (most : Int) (l : List UInt8) (p : Nat) (e : Int) : Nat × Nat × Int :=
  if e ≠ 0 then (0, p, e) else if (rd most (l.drop p) 0 0).2.2 ≠ 0 then (0, p, (rd most (l.drop p) 0 0).2.2) else ((rd most (l.drop p) 0 0).1, p + (rd most (l.drop p) 0 0).2.1, 0)
theorem rd_size {most : Int} {l : List UInt8} (h : (rd most l 0 0).2.2 = 0) : (rd most l 0 0).2.1 ≤ l.length := by
  obtain ⟨m, rest, h1, h2, h3, h4, h5, h6⟩ := rd_one most l 0 0 (rd most l 0 0).1 (rd most l 0 0).2.1 (by rw [← h])
  rw [h3]
  have := congrArg List.length h1
  rw [List.length_append] at this
  omega
theorem rNum_le (most : Int) (l : List UInt8) (p : Nat) (e : Int) (hp : p ≤ l.length) : (rNum most l p e).2.1 ≤ l.length := by
  unfold rNum
  split
  · exact hp
  · split
    · exact hp
    · rename_i h1 h2
      have h3 := rd_size (Classical.not_not.1 h2)
      rw [List.length_drop] at h3
      show p + _ ≤ _
      omega
theorem keep_ne_at {w : World} {r o : Nat} (v : Value) (q : Nat) : Keep (fun k => k ≠ r) w ((w.drewN q).setCell ⟨r, o, none⟩ v) := ((Keep.refl _ w).drewN q).setCell (fun h => h rfl) v
set_option maxHeartbeats 400000 in
set_option maxRecDepth 100000 in
theorem rnum_any {w : World} {r : Nat} {l p e} (most : Int) (h : Rd w r l p e) (hp : p ≤ l.length) (hl : l.length ≤ 281474976710656) :
    Calls Tryz.prog 69 #[.pointer (some ⟨r, 0, none⟩), .int .i64 most] w fun v w' => v = .returned (.int .i64 (rNum most l p e).1) ∧ Rd w' r l (rNum most l p e).2.1 (rNum most l p e).2.2 ∧ Keep (fun k => k ≠ r) w w' := by
  have HE := err_any h
  by_cases he : e = 0
  · subst he
    obtain ⟨c0, c1, c2, f1, f2⟩ := h.cells
    have HN : Hid (∀ w' : World, Calls Tryz.prog 91 #[.string (bs (l.drop p)), .int .i64 most] w' fun e w'' => e = .returned (.tuple #[.int .i64 (rd most (l.drop p) 0 0).1, .int .i64 (rd most (l.drop p) 0 0).2.1, .int .i64 (rd most (l.drop p) 0 0).2.2]) ∧ w' = w'') := fun w' => num_any (l.drop p) most w' (by rw [List.length_drop]; omega)
    have hs := @rd_size most (l.drop p)
    have hlen : (l.drop p).length = l.length - p := List.length_drop
    have hr : rNum most l p 0 = (if (rd most (l.drop p) 0 0).2.2 ≠ 0 then (0, p, (rd most (l.drop p) 0 0).2.2) else ((rd most (l.drop p) 0 0).1, p + (rd most (l.drop p) 0 0).2.1, 0)) := by
      unfold rNum
      rw [if_neg (by simp)]
    have hx := bs_drop l p
    have hz := bs_size l
    have HR : Hid (∀ q, Rd (w.drewN q) r l p 0) := fun q => h.keep ((Keep.refl (fun _ => True) w).drewN q) trivial
    rw [← hx] at HN
    clear hx
    rw [hr]
    clear hr h
    generalize (rd most (l.drop p) 0 0).1 = n at HN hs ⊢
    generalize (rd most (l.drop p) 0 0).2.1 = size at HN hs ⊢
    generalize (rd most (l.drop p) 0 0).2.2 = er at HN hs ⊢
    generalize bs l = sb at c0 HN hz
    have pz : (p : Int) ≤ (sb.size : Int) := by omega
    by_cases hr : er = 0
    · subst hr
      rw [if_neg (by simp)]
      have hs := hs rfl
      rw [hlen] at hs
      have h9 : (p : Int) + (size : Int) ≤ 9223372036854775807 := by omega
      clear hlen hz hp hl
      go_enter Tryz.func69, Tryz.ntmps69
      go_wp2_with fail
      refine HE.mono ?_
      rintro v w1 ⟨rfl, rfl⟩
      go_wp2
      go_quiet ((go_at_call 91; exact Calls.quiet_of_same ((HN.out _).mono fun e w' h => ⟨h.1, h.2.symm⟩)))
      go_wp2
      go_ret
      exact ⟨rfl, (HR.out _).setAt (p + size), keep_ne_at _ _⟩
    · rw [if_pos hr]
      have hr2 : (er != 0) = true := by simp [hr]
      clear hs hlen hz hp hl hr
      go_enter Tryz.func69, Tryz.ntmps69
      go_wp2_with fail
      refine HE.mono ?_
      rintro v w1 ⟨rfl, rfl⟩
      go_wp2
      go_quiet ((go_at_call 91; exact Calls.quiet_of_same ((HN.out _).mono fun e w' h => ⟨h.1, h.2.symm⟩)))
      go_wp2
      go_ret
      exact ⟨rfl, (HR.out _).setErr er, keep_ne_at _ _⟩
  · have hr : rNum most l p e = (0, p, e) := by unfold rNum; rw [if_pos he]
    have HR : Hid (Rd w r l p e) := h
    rw [hr]
    clear hr h
    go_enter Tryz.func69, Tryz.ntmps69
    go_wp2_with fail
    refine HE.mono ?_
    rintro v w1 ⟨rfl, rfl⟩
    go_wp2
    go_ret
    exact ⟨rfl, HR.out, Keep.refl _ _⟩
end Go.Proofs.YtlbclfponongbaaGreatDoor
/- Bytes, texts and ids read. -/
namespace Go.Proofs.YtlbclfponongbaaGreatDoor
open Go.RowKit
/- bytes read: the bytes, the place, the error -/
def rRaw (n : Int) (l : List UInt8) (p : Nat) (e : Int) : List UInt8 × Nat × Int :=
  if e ≠ 0 then ([], p, e) else if n < 0 then ([], p, 2) else if (l.length : Int) - p < n then ([], p, 3) else ((l.drop p).take n.toNat, p + n.toNat, 0)
theorem rRaw_le (n : Int) (l : List UInt8) (p : Nat) (e : Int) (hp : p ≤ l.length) : (rRaw n l p e).2.1 ≤ l.length := by
  unfold rRaw
  split
  · exact hp
  · split
    · exact hp
    · split
      · exact hp
      · show p + n.toNat ≤ l.length
        omega
set_option maxHeartbeats 400000 in
set_option maxRecDepth 100000 in
theorem rraw_any {w : World} {r : Nat} {l p e} (n : Int) (h : Rd w r l p e) (hp : p ≤ l.length) (hl : l.length ≤ 281474976710656) :
    Calls Tryz.prog 92 #[.pointer (some ⟨r, 0, none⟩), .int .i64 n] w fun v w' => v = .returned (.string (bs (rRaw n l p e).1)) ∧ Rd w' r l (rRaw n l p e).2.1 (rRaw n l p e).2.2 ∧ Keep (fun k => k ≠ r) w w' := by
  have HE := err_any h
  have HR : Hid (∀ q, Rd (w.drewN q) r l p e) := fun q => h.keep ((Keep.refl (fun _ => True) w).drewN q) trivial
  by_cases he : e = 0
  · subst he
    obtain ⟨c0, c1, c2, f1, f2⟩ := h.cells
    have hz := bs_size l
    by_cases hn : n < 0
    · have hr : rRaw n l p 0 = ([], p, 2) := by unfold rRaw; rw [if_neg (by simp), if_pos hn]
      rw [hr]
      clear hr h hz hp hl
      go_enter Tryz.func92, Tryz.ntmps92
      go_wp2_with fail
      refine HE.mono ?_
      rintro v w1 ⟨rfl, rfl⟩
      go_wp2
      go_ret
      exact ⟨rfl, (HR.out 0).setErr 2, keep_ne_at (q := 0) _⟩
    · have t1 : decide (n < 0) = false := by simp; omega
      by_cases hs : (l.length : Int) - p < n
      · have hr : rRaw n l p 0 = ([], p, 3) := by unfold rRaw; rw [if_neg (by simp), if_neg hn, if_pos hs]
        rw [hr]
        clear hr h
        generalize bs l = sb at c0 hz
        have w1 : IntKind.i64.wrap ((sb.size : Int) - (p : Int)) = (sb.size : Int) - (p : Int) := IntWalk.i64_in _ (by omega)
        have t2 : (sb.size : Int) - (p : Int) < n := by omega
        clear hz hp hl hn hs
        go_enter Tryz.func92, Tryz.ntmps92
        go_wp2_with fail
        refine HE.mono ?_
        rintro v w1 ⟨rfl, rfl⟩
        go_wp2
        go_quiet (fail)
        go_wp2
        go_ret
        exact ⟨rfl, (HR.out _).setErr 3, keep_ne_at _ _⟩
      · obtain ⟨m, rfl⟩ : ∃ m : Nat, n = m := ⟨n.toNat, by omega⟩
        have hr : rRaw (m : Int) l p 0 = ((l.drop p).take m, p + m, 0) := by unfold rRaw; rw [if_neg (by simp), if_neg hn, if_neg hs]; rfl
        rw [hr]
        have hx := bs_extract l p (p + m)
        rw [show p + m - p = m by omega] at hx
        rw [← hx]
        clear hr h hx
        generalize bs l = sb at c0 hz ⊢
        have w1 : IntKind.i64.wrap ((sb.size : Int) - (p : Int)) = (sb.size : Int) - (p : Int) := IntWalk.i64_in _ (by omega)
        have t2 : decide ((sb.size : Int) - (p : Int) < (m : Int)) = false := by simp; omega
        have t3 : (p : Int) + (m : Int) ≤ (sb.size : Int) := by omega
        have t4 : (p : Int) ≤ (p : Int) + (m : Int) := by omega
        have t5 : (sb.size : Int) ≤ 281474976710656 := by omega
        have HX : Hid (((p + m : Nat) : Int) = (p : Int) + (m : Int)) := by show ((p + m : Nat) : Int) = (p : Int) + (m : Int); omega
        clear hz hp hl hn hs
        go_enter Tryz.func92, Tryz.ntmps92
        go_wp2_with fail
        refine HE.mono ?_
        rintro v w1 ⟨rfl, rfl⟩
        go_wp2
        go_quiet (fail)
        go_wp2
        go_quiet (fail)
        go_wp2
        go_ret
        exact ⟨rfl, (HR.out _).setAt (p + m), keep_ne_at _ _⟩
  · have hr : rRaw n l p e = ([], p, e) := by unfold rRaw; rw [if_pos he]
    rw [hr]
    clear hr h
    go_enter Tryz.func92, Tryz.ntmps92
    go_wp2_with fail
    refine HE.mono ?_
    rintro v w1 ⟨rfl, rfl⟩
    go_wp2
    go_ret
    exact ⟨rfl, HR.out 0, Keep.refl _ _⟩
/- a text read: the bytes, the place, the error -/
def rText (most : Int) (l : List UInt8) (p : Nat) (e : Int) : List UInt8 × Nat × Int :=
  if e ≠ 0 then ([], p, e) else
  if (rRaw (rNum most l p 0).1 l (rNum most l p 0).2.1 (rNum most l p 0).2.2).2.2 ≠ 0 then
    ((rRaw (rNum most l p 0).1 l (rNum most l p 0).2.1 (rNum most l p 0).2.2).1, p, (rRaw (rNum most l p 0).1 l (rNum most l p 0).2.1 (rNum most l p 0).2.2).2.2)
  else rRaw (rNum most l p 0).1 l (rNum most l p 0).2.1 (rNum most l p 0).2.2
theorem rText_le (most : Int) (l : List UInt8) (p : Nat) (e : Int) (hp : p ≤ l.length) : (rText most l p e).2.1 ≤ l.length := by
  unfold rText
  split
  · exact hp
  · split
    · exact hp
    · exact rRaw_le _ _ _ _ (rNum_le _ _ _ _ hp)
set_option maxHeartbeats 400000 in
set_option maxRecDepth 100000 in
theorem rtext_any {w : World} {r : Nat} {l p e} (most : Int) (h : Rd w r l p e) (hp : p ≤ l.length) (hl : l.length ≤ 281474976710656) :
    Calls Tryz.prog 70 #[.pointer (some ⟨r, 0, none⟩), .int .i64 most] w fun v w' => v = .returned (.string (bs (rText most l p e).1)) ∧ Rd w' r l (rText most l p e).2.1 (rText most l p e).2.2 ∧ Keep (fun k => k ≠ r) w w' := by
  have HE := err_any h
  by_cases he : e = 0
  · subst he
    obtain ⟨c0, c1, c2, f1, f2⟩ := h.cells
    have H1 := rnum_any most h hp hl
    have hq := rNum_le most l p 0 hp
    obtain ⟨n, q, er, hnum⟩ : ∃ n q er, rNum most l p 0 = (n, q, er) := ⟨_, _, _, rfl⟩
    rw [hnum] at H1 hq
    have H2 : Hid (∀ w1, Rd w1 r l q er → Calls Tryz.prog 92 #[.pointer (some ⟨r, 0, none⟩), .int .i64 n] w1 fun v w' => v = .returned (.string (bs (rRaw n l q er).1)) ∧ Rd w' r l (rRaw n l q er).2.1 (rRaw n l q er).2.2 ∧ Keep (fun k => k ≠ r) w1 w') := fun w1 h1 => rraw_any (n : Int) h1 hq hl
    have ht : rText most l p 0 = if (rRaw n l q er).2.2 ≠ 0 then ((rRaw n l q er).1, p, (rRaw n l q er).2.2) else rRaw n l q er := by
      unfold rText
      rw [if_neg (by simp), hnum]
    rw [ht]
    clear ht hnum hq hp hl h c0 c2 f1 f2
    obtain ⟨s, q2, e2, hraw⟩ : ∃ s q2 e2, rRaw n l q er = (s, q2, e2) := ⟨_, _, _, rfl⟩
    rw [hraw] at H2 ⊢
    clear hraw
    dsimp only at H1 H2 ⊢
    by_cases h2 : e2 = 0
    · subst h2
      rw [if_neg (by simp)]
      dsimp only
      generalize bs s = sb at H2 ⊢
      go_enter Tryz.func70, Tryz.ntmps70
      go_wp2_with fail
      refine HE.mono ?_
      rintro v w1 ⟨rfl, rfl⟩
      go_wp2_with fail
      refine H1.mono ?_
      rintro v w1 ⟨rfl, hR1, hK1⟩
      have HK1 := Lib.hid hK1
      have HR1 := Lib.hid hR1
      clear hK1 hR1
      go_wp2_with fail
      refine (H2.out w1 HR1.out).mono ?_
      rintro v w2 ⟨rfl, hR2, hK2⟩
      have HK2 := Lib.hid (HK1.out.trans hK2)
      have HR2 := Lib.hid hR2
      obtain ⟨-, c1b, c2, f1, -⟩ := hR2.cells
      clear hK2 hR2
      go_wp2
      go_ret
      exact ⟨rfl, HR2.out, HK2.out⟩
    · rw [if_pos h2]
      dsimp only
      generalize bs s = sb at H2 ⊢
      have h3 : (e2 != 0) = true := by simp [h2]
      clear h2
      go_enter Tryz.func70, Tryz.ntmps70
      go_wp2_with fail
      refine HE.mono ?_
      rintro v w1 ⟨rfl, rfl⟩
      go_wp2_with fail
      refine H1.mono ?_
      rintro v w1 ⟨rfl, hR1, hK1⟩
      have HK1 := Lib.hid hK1
      have HR1 := Lib.hid hR1
      clear hK1 hR1
      go_wp2_with fail
      refine (H2.out w1 HR1.out).mono ?_
      rintro v w2 ⟨rfl, hR2, hK2⟩
      have HK2 := Lib.hid (HK1.out.trans hK2)
      have HR2 := Lib.hid hR2
      obtain ⟨-, c1b, c2, f1, -⟩ := hR2.cells
      clear hK2 hR2
      go_wp2
      go_ret
      exact ⟨rfl, HR2.out.setAt p, HK2.out.setCell (fun h => h rfl) _⟩
  · have hr : rText most l p e = ([], p, e) := by unfold rText; rw [if_pos he]
    have HR : Hid (Rd w r l p e) := h
    rw [hr]
    clear hr h
    go_enter Tryz.func70, Tryz.ntmps70
    go_wp2_with fail
    refine HE.mono ?_
    rintro v w1 ⟨rfl, rfl⟩
    go_wp2
    go_ret
    exact ⟨rfl, HR.out, Keep.refl _ _⟩
end Go.Proofs.YtlbclfponongbaaGreatDoor
/- Ids read. -/
namespace Go.Proofs.YtlbclfponongbaaGreatDoor
open Go.RowKit
/- the bytes of an id read -/
def idOf (s : List UInt8) (i : Nat) : UInt8 := s.getD i 0
theorem sz5 : (Tryz.prog.info? 5).map (·.size) = some 1 := by kernel_rfl
theorem copy_id (w : World) (b E : Nat) (t : List UInt8) (ht : t.length ≤ 32) (hB : Blk w b E 32 (bv fun _ => 0)) :
    (Builtin.copy_ #[59, 9] 3 #[.slice (some ⟨b, 0, none⟩) 32 32, .string (bs t)]).run Tryz.prog w = .ok (goInt t.length) (w.setRow b (arr 32 (bv (idOf t)))) := by
  have h := Lib.run_copy_row_string (P := Tryz.prog) w 59 9 3 5 b 0 32 32 (bs t) (arr 32 (bv fun _ => 0)) E t25 sz5 hB (by rw [bs_size]; exact ht) (by rw [bs_size, arr_size]; omega)
  rw [bs_size] at h
  refine h.trans (congrArg (fun c => Result.ok (goInt t.length) (w.setRow b c)) ?_)
  have e0 : (Lib.byteCells (bs t).data.toList) = cbs t := by simp [Lib.byteCells, bs, cbs]; intro b _; rfl
  rw [e0, List.take_zero, List.nil_append, Nat.zero_add]
  apply Array.ext_getElem?
  intro i
  by_cases hi : i < 32
  · rw [arr_get _ _ _ hi, List.getElem?_toArray]
    by_cases hit : i < t.length
    · rw [List.getElem?_append_left (by rw [cbs_length]; exact hit)]
      simp [cbs, bv, idOf, hit]
    · rw [List.getElem?_append_right (by rw [cbs_length]; omega), cbs_length, List.getElem?_drop, Array.getElem?_toList, show t.length + (i - t.length) = i by omega, arr_get _ _ _ hi]
      simp only [bv, idOf]
      rw [List.getD_eq_getElem?_getD, List.getElem?_eq_none (by omega)]; rfl
  · rw [Array.getElem?_eq_none (by rw [List.size_toArray, List.length_append, cbs_length, List.length_drop]; have := arr_size 32 (bv fun _ => 0); simp; omega), Array.getElem?_eq_none (by rw [arr_size]; omega)]
/- a copy's run as a step of a region that draws -/
theorem step_copy_run {P : Program} {ops : Array Oper} {o : Oper} {a : Act} {w : World} {K : Act → World → Prop} {Q : Exit → Act → World → Prop} {E : Prop}
    (hg : o.guard = none) (s x : Operand) (t u : TypeId) (hop : o.op = Op.call { callee := Callee.builtin Builtin.copy, args := #[s, x], argTypes := #[t, u] })
    (vs vx v' : Value) (w' : World) (hs : a.eval s = vs) (hx : a.eval x = vx) (hrun : (Builtin.copy_ #[t, u] o.type #[vs, vx]).run P w = .ok v' w')
    (hK : K (a.put o.dst v') w') :
    if Region.wanted o (yielded ops a.tmps) = true then Oper.wp P o a w K Q else E := by
  have hw : Region.wanted o (yielded ops a.tmps) = true := by simp [Region.wanted, hg]
  rw [if_pos hw]
  unfold Oper.wp
  simp [execOp, hop, resolve, invoke, builtin, hs, hx, hrun, Result.andThen]
  exact hK
theorem rRaw_len (n : Nat) (l : List UInt8) (p : Nat) (e : Int) : (rRaw n l p e).1.length ≤ n := by
  unfold rRaw
  split
  · simp
  · split
    · simp
    · split
      · simp
      · simp; omega
theorem Keep.setRowNew {K : Nat → Prop} {a w : World} (h : Keep K a w) {g : Nat} (hg : a.heap.size ≤ g) (cs : Array Value) : Keep K a (w.setRow g cs) :=
  ⟨h.os, h.tape, h.output, by simp; exact h.size, fun k hk hl => by rw [setRow_other w g k cs (by omega)]; exact h.block k hk hl⟩
set_option maxHeartbeats 400000 in
set_option maxRecDepth 100000 in
theorem rid_any {w : World} {r : Nat} {l p e} (h : Rd w r l p e) (hp : p ≤ l.length) (hl : l.length ≤ 281474976710656) :
    Calls Tryz.prog 71 #[.pointer (some ⟨r, 0, none⟩)] w fun v w' => v = .returned (.agg (arr 32 (bv (idOf (rRaw 32 l p e).1)))) ∧ Rd w' r l (rRaw 32 l p e).2.1 (rRaw 32 l p e).2.2 ∧ Keep (fun k => k ≠ r) w w' := by
  have H : Hid (∀ W, Rd W r l p e → Calls Tryz.prog 92 #[.pointer (some ⟨r, 0, none⟩), .int .i64 32] W fun v w' => v = .returned (.string (bs (rRaw 32 l p e).1)) ∧ Rd w' r l (rRaw 32 l p e).2.1 (rRaw 32 l p e).2.2 ∧ Keep (fun k => k ≠ r) W w') := fun W hW => rraw_any 32 hW hp hl
  have ht := rRaw_len 32 l p e
  obtain ⟨t, q, e2, hraw⟩ : ∃ t q e2, rRaw 32 l p e = (t, q, e2) := ⟨_, _, _, rfl⟩
  have ht2 : t.length ≤ 32 := by have := ht; rw [show ((32 : Nat) : Int) = 32 from rfl, hraw] at this; exact this
  rw [hraw] at H ⊢
  clear hraw ht hp hl
  dsimp only at H ⊢
  have hr := h.lt
  have B0 : Blk ((w.alloc (.cells (arr 32 (bv fun _ => 0)) 29)).alloc (.cells (arr 32 (bv fun _ => 0)) 29)) w.heap.size 29 32 (bv fun _ => 0) := Blk.newAt _ (heap_alloc2_old w _ _) rfl
  have B1 : Blk ((w.alloc (.cells (arr 32 (bv fun _ => 0)) 29)).alloc (.cells (arr 32 (bv fun _ => 0)) 29)) (w.heap.size + 1) 29 32 (bv fun _ => 0) := Blk.newAt _ (heap_alloc2_new w _ _) rfl
  have KW : Keep (fun k => k ≠ r) w ((w.alloc (.cells (arr 32 (bv fun _ => 0)) 29)).alloc (.cells (arr 32 (bv fun _ => 0)) 29)) := ((Keep.refl _ w).alloc _).alloc _
  have RW : Rd ((w.alloc (.cells (arr 32 (bv fun _ => 0)) 29)).alloc (.cells (arr 32 (bv fun _ => 0)) 29)) r l p e := h.keep (((Keep.refl (fun _ => True) w).alloc _).alloc _) trivial
  have HA := Lib.hid (And.intro ht2 hr)
  have HB := Lib.hid (And.intro B0 (And.intro B1 (And.intro KW RW)))
  clear ht2 hr h B0 B1 KW RW
  go_enter Tryz.func71, Tryz.ntmps71
  go_wp2_with fail
  change Code.wp Tryz.prog _ _ _ ((w.alloc (.cells (arr 32 (bv fun _ => 0)) 29)).alloc (.cells (arr 32 (bv fun _ => 0)) 29))
  generalize (w.alloc (.cells (arr 32 (bv fun _ => 0)) 29)).alloc (.cells (arr 32 (bv fun _ => 0)) 29) = W at HB ⊢
  generalize hz : w.heap.size = z at HA HB ⊢
  have HZ := Lib.hid hz
  clear hz
  go_region_law (go_simp; go_at_call 92; refine (H.out W.drew HB.out.2.2.2).mono ?_; rintro v w1 ⟨rfl, g1, g2⟩; have hc := copy_id w1 (z + 1) 29 t HA.out.1 (g2.blk (by have := HA.out.2; omega) HB.out.2.1))
  have B1 : Blk (w1.setRow (z + 1) (arr 32 (bv (idOf t)))) (z + 1) 29 32 (bv (idOf t)) := (show Blk w1 (z + 1) 29 32 (bv fun _ => 0) from g2.blk (by have := HA.out.2; omega) HB.out.2.1).setRow _
  have B0 : Blk (w1.setRow (z + 1) (arr 32 (bv (idOf t)))) z 29 32 (bv fun _ => 0) := (show Blk w1 z 29 32 (bv fun _ => 0) from g2.blk (by have := HA.out.2; omega) HB.out.1).setRowOther _ _ (by omega)
  have G1 : Hid (Rd ((w1.setRow (z + 1) (arr 32 (bv (idOf t)))).setRow z (arr 32 (bv (idOf t)))) r l q e2) := by
    refine g1.keep (((Keep.refl (fun k => k = r) w1).setRow (fun h => ?_) _).setRow (fun h => ?_) _) rfl
    · have := HA.out.2; omega
    · have := HA.out.2; omega
  have G2 : Hid (Keep (fun k => k ≠ r) w ((w1.setRow (z + 1) (arr 32 (bv (idOf t)))).setRow z (arr 32 (bv (idOf t))))) :=
    (((HB.out.2.2.1.trans (Keep.drew (Keep.refl _ _))).trans g2).setRowNew (by rw [HZ.out]; omega) _).setRowNew (by rw [HZ.out]; omega) _
  clear g1 g2 hc
  generalize w1.setRow (z + 1) (arr 32 (bv (idOf t))) = w2 at B1 B0 G1 G2 ⊢
  have B2 := B0.setRow (bv (idOf t))
  go_wp2_with (first | (refine wpList_load_blk rfl 29 (.tmp 3) rfl (z + 1) rfl 29 32 (bv (idOf t)) B1 _ ty30 rfl sz30 ?_) | (refine wpList_store_blk rfl 29 (.tmp 2) (.tmp 8) rfl z 32 (bv (idOf t)) (bv fun _ => 0) rfl rfl 29 B0 sz30 (fun _ _ => rfl) ?_))
  generalize w2.setRow z (arr 32 (bv (idOf t))) = w3 at B2 G1 G2 ⊢
  exact bodyPost_ret (v := .agg (arr 32 (bv (idOf t)))) (results_blk rfl _ _ z 29 32 _ B2 _ rfl ty30 rfl sz30) rfl ⟨rfl, G1.out, G2.out⟩
end Go.Proofs.YtlbclfponongbaaGreatDoor
