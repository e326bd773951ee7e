import Derived.Test.YtdfoejgkjfklcaaV6
/- Bytes, texts and ids read. -/
namespace Go.Proofs.Ytdfoejgkjfklcaa
open Go.RowKit
/- bytes read: the bytes, the place, the error -/
def rRaw (n : Int) (l : List UInt8) (p : Nat) (e : Int) : List UInt8 × Nat × Int :=
  if e ≠ 0 then ([], p, e) else if n < 0 then ([], p, 2) else if (l.length : Int) - p < n then ([], p, 3) else ((l.drop p).take n.toNat, p + n.toNat, 0)
theorem rRaw_le (n : Int) (l : List UInt8) (p : Nat) (e : Int) (hp : p ≤ l.length) : (rRaw n l p e).2.1 ≤ l.length := by
  unfold rRaw
  split
  · exact hp
  · split
    · exact hp
    · split
      · exact hp
      · show p + n.toNat ≤ l.length
        omega
set_option maxHeartbeats 400000 in
set_option maxRecDepth 100000 in
theorem rraw_any {w : World} {r : Nat} {l p e} (n : Int) (h : Rd w r l p e) (hp : p ≤ l.length) (hl : l.length ≤ 281474976710656) :
    Calls Try.prog 45 #[.pointer (some ⟨r, 0, none⟩), .int .i64 n] w fun v w' => v = .returned (.string (bs (rRaw n l p e).1)) ∧ Rd w' r l (rRaw n l p e).2.1 (rRaw n l p e).2.2 ∧ Keep (fun k => k ≠ r) w w' := by
  have HE := err_any h
  have HR : Hid (∀ q, Rd (w.drewN q) r l p e) := fun q => h.keep ((Keep.refl (fun _ => True) w).drewN q) trivial
  by_cases he : e = 0
  · subst he
    obtain ⟨c0, c1, c2, f1, f2⟩ := h.cells
    have hz := bs_size l
    by_cases hn : n < 0
    · have hr : rRaw n l p 0 = ([], p, 2) := by unfold rRaw; rw [if_neg (by simp), if_pos hn]
      rw [hr]
      clear hr h hz hp hl
      go_enter Try.func45, Try.ntmps45
      go_wp2_with fail
      refine HE.mono ?_
      rintro v w1 ⟨rfl, rfl⟩
      go_wp2
      go_ret
      exact ⟨rfl, (HR.out 0).setErr 2, keep_ne_at (q := 0) _⟩
    · have t1 : decide (n < 0) = false := by simp; omega
      by_cases hs : (l.length : Int) - p < n
      · have hr : rRaw n l p 0 = ([], p, 3) := by unfold rRaw; rw [if_neg (by simp), if_neg hn, if_pos hs]
        rw [hr]
        clear hr h
        generalize bs l = sb at c0 hz
        have w1 : IntKind.i64.wrap ((sb.size : Int) - (p : Int)) = (sb.size : Int) - (p : Int) := IntWalk.i64_in _ (by omega)
        have t2 : (sb.size : Int) - (p : Int) < n := by omega
        clear hz hp hl hn hs
        go_enter Try.func45, Try.ntmps45
        go_wp2_with fail
        refine HE.mono ?_
        rintro v w1 ⟨rfl, rfl⟩
        go_wp2
        go_quiet (fail)
        go_wp2
        go_ret
        exact ⟨rfl, (HR.out _).setErr 3, keep_ne_at _ _⟩
      · obtain ⟨m, rfl⟩ : ∃ m : Nat, n = m := ⟨n.toNat, by omega⟩
        have hr : rRaw (m : Int) l p 0 = ((l.drop p).take m, p + m, 0) := by unfold rRaw; rw [if_neg (by simp), if_neg hn, if_neg hs]; rfl
        rw [hr]
        have hx := bs_extract l p (p + m)
        rw [show p + m - p = m by omega] at hx
        rw [← hx]
        clear hr h hx
        generalize bs l = sb at c0 hz ⊢
        have w1 : IntKind.i64.wrap ((sb.size : Int) - (p : Int)) = (sb.size : Int) - (p : Int) := IntWalk.i64_in _ (by omega)
        have t2 : decide ((sb.size : Int) - (p : Int) < (m : Int)) = false := by simp; omega
        have t3 : (p : Int) + (m : Int) ≤ (sb.size : Int) := by omega
        have t4 : (p : Int) ≤ (p : Int) + (m : Int) := by omega
        have t5 : (sb.size : Int) ≤ 281474976710656 := by omega
        have HX : Hid (((p + m : Nat) : Int) = (p : Int) + (m : Int)) := by show ((p + m : Nat) : Int) = (p : Int) + (m : Int); omega
        clear hz hp hl hn hs
        go_enter Try.func45, Try.ntmps45
        go_wp2_with fail
        refine HE.mono ?_
        rintro v w1 ⟨rfl, rfl⟩
        go_wp2
        go_quiet (fail)
        go_wp2
        go_quiet (fail)
        go_wp2
        go_ret
        exact ⟨rfl, (HR.out _).setAt (p + m), keep_ne_at _ _⟩
  · have hr : rRaw n l p e = ([], p, e) := by unfold rRaw; rw [if_pos he]
    rw [hr]
    clear hr h
    go_enter Try.func45, Try.ntmps45
    go_wp2_with fail
    refine HE.mono ?_
    rintro v w1 ⟨rfl, rfl⟩
    go_wp2
    go_ret
    exact ⟨rfl, HR.out 0, Keep.refl _ _⟩
/- a text read: the bytes, the place, the error -/
def rText (most : Int) (l : List UInt8) (p : Nat) (e : Int) : List UInt8 × Nat × Int :=
  if e ≠ 0 then ([], p, e) else
  if (rRaw (rNum most l p 0).1 l (rNum most l p 0).2.1 (rNum most l p 0).2.2).2.2 ≠ 0 then
    ((rRaw (rNum most l p 0).1 l (rNum most l p 0).2.1 (rNum most l p 0).2.2).1, p, (rRaw (rNum most l p 0).1 l (rNum most l p 0).2.1 (rNum most l p 0).2.2).2.2)
  else rRaw (rNum most l p 0).1 l (rNum most l p 0).2.1 (rNum most l p 0).2.2
theorem rText_le (most : Int) (l : List UInt8) (p : Nat) (e : Int) (hp : p ≤ l.length) : (rText most l p e).2.1 ≤ l.length := by
  unfold rText
  split
  · exact hp
  · split
    · exact hp
    · exact rRaw_le _ _ _ _ (rNum_le _ _ _ _ hp)
end Go.Proofs.Ytdfoejgkjfklcaa
