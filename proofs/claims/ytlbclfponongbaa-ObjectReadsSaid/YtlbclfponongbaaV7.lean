import Derived.Test.YtlbclfponongbaaV6
/- Bytes, texts and ids read. -/
namespace Go.Proofs.Ytlbclfponongbaa
open Go.RowKit
/- bytes read: the bytes, the place, the error -/
def rRaw (n : Int) (l : List UInt8) (p : Nat) (e : Int) : List UInt8 × Nat × Int :=
  if e ≠ 0 then ([], p, e) else if n < 0 then ([], p, 2) else if (l.length : Int) - p < n then ([], p, 3) else ((l.drop p).take n.toNat, p + n.toNat, 0)
theorem rRaw_le (n : Int) (l : List UInt8) (p : Nat) (e : Int) (hp : p ≤ l.length) : (rRaw n l p e).2.1 ≤ l.length := by
  unfold rRaw
  split
  · exact hp
  · split
    · exact hp
    · split
      · exact hp
      · show p + n.toNat ≤ l.length
        omega
set_option maxHeartbeats 400000 in
set_option maxRecDepth 100000 in
theorem rraw_any {w : World} {r : Nat} {l p e} (n : Int) (h : Rd w r l p e) (hp : p ≤ l.length) (hl : l.length ≤ 281474976710656) :
    Calls Try.prog 12 #[.pointer (some ⟨r, 0, none⟩), .int .i64 n] w fun v w' => v = .returned (.string (bs (rRaw n l p e).1)) ∧ Rd w' r l (rRaw n l p e).2.1 (rRaw n l p e).2.2 ∧ Keep (fun k => k ≠ r) w w' := by
  have HE := err_any h
  have HR : Hid (∀ q, Rd (w.drewN q) r l p e) := fun q => h.keep ((Keep.refl (fun _ => True) w).drewN q) trivial
  by_cases he : e = 0
  · subst he
    obtain ⟨c0, c1, c2, f1, f2⟩ := h.cells
    have hz := bs_size l
    by_cases hn : n < 0
    · have hr : rRaw n l p 0 = ([], p, 2) := by unfold rRaw; rw [if_neg (by simp), if_pos hn]
      rw [hr]
      clear hr h hz hp hl
      go_enter Try.func12, Try.ntmps12
      go_wp2_with fail
      refine HE.mono ?_
      rintro v w1 ⟨rfl, rfl⟩
      go_wp2
      go_ret
      exact ⟨rfl, (HR.out 0).setErr 2, keep_ne_at (q := 0) _⟩
    · have t1 : decide (n < 0) = false := by simp; omega
      by_cases hs : (l.length : Int) - p < n
      · have hr : rRaw n l p 0 = ([], p, 3) := by unfold rRaw; rw [if_neg (by simp), if_neg hn, if_pos hs]
        rw [hr]
        clear hr h
        generalize bs l = sb at c0 hz
        have w1 : IntKind.i64.wrap ((sb.size : Int) - (p : Int)) = (sb.size : Int) - (p : Int) := IntWalk.i64_in _ (by omega)
        have t2 : (sb.size : Int) - (p : Int) < n := by omega
        clear hz hp hl hn hs
        go_enter Try.func12, Try.ntmps12
        go_wp2_with fail
        refine HE.mono ?_
        rintro v w1 ⟨rfl, rfl⟩
        go_wp2
        go_quiet (fail)
        go_wp2
        go_ret
        exact ⟨rfl, (HR.out _).setErr 3, keep_ne_at _ _⟩
      · obtain ⟨m, rfl⟩ : ∃ m : Nat, n = m := ⟨n.toNat, by omega⟩
        have hr : rRaw (m : Int) l p 0 = ((l.drop p).take m, p + m, 0) := by unfold rRaw; rw [if_neg (by simp), if_neg hn, if_neg hs]; rfl
        rw [hr]
        have hx := bs_extract l p (p + m)
        rw [show p + m - p = m by omega] at hx
        rw [← hx]
        clear hr h hx
        generalize bs l = sb at c0 hz ⊢
        have w1 : IntKind.i64.wrap ((sb.size : Int) - (p : Int)) = (sb.size : Int) - (p : Int) := IntWalk.i64_in _ (by omega)
        have t2 : decide ((sb.size : Int) - (p : Int) < (m : Int)) = false := by simp; omega
        have t3 : (p : Int) + (m : Int) ≤ (sb.size : Int) := by omega
        have t4 : (p : Int) ≤ (p : Int) + (m : Int) := by omega
        have t5 : (sb.size : Int) ≤ 281474976710656 := by omega
        have HX : Hid (((p + m : Nat) : Int) = (p : Int) + (m : Int)) := by show ((p + m : Nat) : Int) = (p : Int) + (m : Int); omega
        clear hz hp hl hn hs
        go_enter Try.func12, Try.ntmps12
        go_wp2_with fail
        refine HE.mono ?_
        rintro v w1 ⟨rfl, rfl⟩
        go_wp2
        go_quiet (fail)
        go_wp2
        go_quiet (fail)
        go_wp2
        go_ret
        exact ⟨rfl, (HR.out _).setAt (p + m), keep_ne_at _ _⟩
  · have hr : rRaw n l p e = ([], p, e) := by unfold rRaw; rw [if_pos he]
    rw [hr]
    clear hr h
    go_enter Try.func12, Try.ntmps12
    go_wp2_with fail
    refine HE.mono ?_
    rintro v w1 ⟨rfl, rfl⟩
    go_wp2
    go_ret
    exact ⟨rfl, HR.out 0, Keep.refl _ _⟩
/- a text read: the bytes, the place, the error -/
def rText (most : Int) (l : List UInt8) (p : Nat) (e : Int) : List UInt8 × Nat × Int :=
  if e ≠ 0 then ([], p, e) else
  if (rRaw (rNum most l p 0).1 l (rNum most l p 0).2.1 (rNum most l p 0).2.2).2.2 ≠ 0 then
    ((rRaw (rNum most l p 0).1 l (rNum most l p 0).2.1 (rNum most l p 0).2.2).1, p, (rRaw (rNum most l p 0).1 l (rNum most l p 0).2.1 (rNum most l p 0).2.2).2.2)
  else rRaw (rNum most l p 0).1 l (rNum most l p 0).2.1 (rNum most l p 0).2.2
theorem rText_le (most : Int) (l : List UInt8) (p : Nat) (e : Int) (hp : p ≤ l.length) : (rText most l p e).2.1 ≤ l.length := by
  unfold rText
  split
  · exact hp
  · split
    · exact hp
    · exact rRaw_le _ _ _ _ (rNum_le _ _ _ _ hp)
set_option maxHeartbeats 400000 in
set_option maxRecDepth 100000 in
theorem rtext_any {w : World} {r : Nat} {l p e} (most : Int) (h : Rd w r l p e) (hp : p ≤ l.length) (hl : l.length ≤ 281474976710656) :
    Calls Try.prog 13 #[.pointer (some ⟨r, 0, none⟩), .int .i64 most] w fun v w' => v = .returned (.string (bs (rText most l p e).1)) ∧ Rd w' r l (rText most l p e).2.1 (rText most l p e).2.2 ∧ Keep (fun k => k ≠ r) w w' := by
  have HE := err_any h
  by_cases he : e = 0
  · subst he
    obtain ⟨c0, c1, c2, f1, f2⟩ := h.cells
    have H1 := rnum_any most h hp hl
    have hq := rNum_le most l p 0 hp
    obtain ⟨n, q, er, hnum⟩ : ∃ n q er, rNum most l p 0 = (n, q, er) := ⟨_, _, _, rfl⟩
    rw [hnum] at H1 hq
    have H2 : Hid (∀ w1, Rd w1 r l q er → Calls Try.prog 12 #[.pointer (some ⟨r, 0, none⟩), .int .i64 n] w1 fun v w' => v = .returned (.string (bs (rRaw n l q er).1)) ∧ Rd w' r l (rRaw n l q er).2.1 (rRaw n l q er).2.2 ∧ Keep (fun k => k ≠ r) w1 w') := fun w1 h1 => rraw_any (n : Int) h1 hq hl
    have ht : rText most l p 0 = if (rRaw n l q er).2.2 ≠ 0 then ((rRaw n l q er).1, p, (rRaw n l q er).2.2) else rRaw n l q er := by
      unfold rText
      rw [if_neg (by simp), hnum]
    rw [ht]
    clear ht hnum hq hp hl h c0 c2 f1 f2
    obtain ⟨s, q2, e2, hraw⟩ : ∃ s q2 e2, rRaw n l q er = (s, q2, e2) := ⟨_, _, _, rfl⟩
    rw [hraw] at H2 ⊢
    clear hraw
    dsimp only at H1 H2 ⊢
    by_cases h2 : e2 = 0
    · subst h2
      rw [if_neg (by simp)]
      dsimp only
      generalize bs s = sb at H2 ⊢
      go_enter Try.func13, Try.ntmps13
      go_wp2_with fail
      refine HE.mono ?_
      rintro v w1 ⟨rfl, rfl⟩
      go_wp2_with fail
      refine H1.mono ?_
      rintro v w1 ⟨rfl, hR1, hK1⟩
      have HK1 := Lib.hid hK1
      have HR1 := Lib.hid hR1
      clear hK1 hR1
      go_wp2_with fail
      refine (H2.out w1 HR1.out).mono ?_
      rintro v w2 ⟨rfl, hR2, hK2⟩
      have HK2 := Lib.hid (HK1.out.trans hK2)
      have HR2 := Lib.hid hR2
      obtain ⟨-, c1b, c2, f1, -⟩ := hR2.cells
      clear hK2 hR2
      go_wp2
      go_ret
      exact ⟨rfl, HR2.out, HK2.out⟩
    · rw [if_pos h2]
      dsimp only
      generalize bs s = sb at H2 ⊢
      have h3 : (e2 != 0) = true := by simp [h2]
      clear h2
      go_enter Try.func13, Try.ntmps13
      go_wp2_with fail
      refine HE.mono ?_
      rintro v w1 ⟨rfl, rfl⟩
      go_wp2_with fail
      refine H1.mono ?_
      rintro v w1 ⟨rfl, hR1, hK1⟩
      have HK1 := Lib.hid hK1
      have HR1 := Lib.hid hR1
      clear hK1 hR1
      go_wp2_with fail
      refine (H2.out w1 HR1.out).mono ?_
      rintro v w2 ⟨rfl, hR2, hK2⟩
      have HK2 := Lib.hid (HK1.out.trans hK2)
      have HR2 := Lib.hid hR2
      obtain ⟨-, c1b, c2, f1, -⟩ := hR2.cells
      clear hK2 hR2
      go_wp2
      go_ret
      exact ⟨rfl, HR2.out.setAt p, HK2.out.setCell (fun h => h rfl) _⟩
  · have hr : rText most l p e = ([], p, e) := by unfold rText; rw [if_pos he]
    have HR : Hid (Rd w r l p e) := h
    rw [hr]
    clear hr h
    go_enter Try.func13, Try.ntmps13
    go_wp2_with fail
    refine HE.mono ?_
    rintro v w1 ⟨rfl, rfl⟩
    go_wp2
    go_ret
    exact ⟨rfl, HR.out, Keep.refl _ _⟩
end Go.Proofs.Ytlbclfponongbaa
