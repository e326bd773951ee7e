import Derived.Test.YtekeaoolodmdaaaV5m
/- The reference's reader: bytes, its end. -/
namespace Go.Proofs.Ytekeaoolodmdaaa
open Go.RowKit
/- the reader in block r reads l, stands at 'at', and has the error e -/
def Rq (w : World) (r : Nat) (l : List UInt8) (p : Nat) (e : Int) : Prop := w.heap[r]? = some (.cells #[.string (bs l), .int .i64 p, .int .i64 e] 84 (0, 0))
theorem Rq.keep {K : Nat → Prop} {w w' : World} {r : Nat} {l p e} (h : Rq w r l p e) (hk : Keep K w w') (hr : K r) : Rq w' r l p e := hk.at hr h
theorem Rq.lt {w : World} {r : Nat} {l p e} (h : Rq w r l p e) : r < w.heap.size := lt_of_block h
theorem Rq.cells {w : World} {r : Nat} {l p e} (h : Rq w r l p e) : w.cell? ⟨r, 0, none⟩ = some (.string (bs l)) ∧ w.cell? ⟨r, 1, none⟩ = some (.int .i64 p) ∧ w.cell? ⟨r, 2, none⟩ = some (.int .i64 e) ∧
    w.frozen? ⟨r, 1, none⟩ = false ∧ w.frozen? ⟨r, 2, none⟩ = false :=
  ⟨cell_of_row _ _ _ _ _ _ h, cell_of_row _ _ _ _ _ _ h, cell_of_row _ _ _ _ _ _ h, frozen_of_row _ _ _ _ _ h, frozen_of_row _ _ _ _ _ h⟩
theorem Rq.setAt {w : World} {r : Nat} {l p e} (h : Rq w r l p e) (q : Nat) : Rq (w.setCell ⟨r, 1, none⟩ (.int .i64 q)) r l q e := by
  unfold Rq at *
  rw [heap_setCell_same w r 1 _ 84 _ h]; rfl
theorem Rq.setErr {w : World} {r : Nat} {l p e} (h : Rq w r l p e) (q : Int) : Rq (w.setCell ⟨r, 2, none⟩ (.int .i64 q)) r l p q := by
  unfold Rq at *
  rw [heap_setCell_same w r 2 _ 84 _ h]; rfl
set_option maxHeartbeats 400000 in
set_option maxRecDepth 100000 in
theorem qraw_any {w : World} {r : Nat} {l p e} (n : Int) (h : Rq w r l p e) (hp : p ≤ l.length) (hl : l.length ≤ 281474976710656) :
    Calls Try.prog 42 #[.pointer (some ⟨r, 0, none⟩), .int .i64 n] w fun v w' => v = .returned (.string (bs (rRaw n l p e).1)) ∧ Rq w' r l (rRaw n l p e).2.1 (rRaw n l p e).2.2 ∧ Keep (fun k => k ≠ r) w w' := by
  have HR : Hid (∀ q, Rq (w.drewN q) r l p e) := fun q => h.keep ((Keep.refl (fun _ => True) w).drewN q) trivial
  by_cases he : e = 0
  · subst he
    obtain ⟨c0, c1, c2, f1, f2⟩ := h.cells
    have hz := bs_size l
    by_cases hn : n < 0
    · have hr : rRaw n l p 0 = ([], p, 2) := by unfold rRaw; rw [if_neg (by simp), if_pos hn]
      rw [hr]
      clear hr h hz hp hl
      go_enter Try.func42, Try.ntmps42
      go_wp2
      go_ret
      exact ⟨rfl, (HR.out 0).setErr 2, keep_ne_at (q := 0) _⟩
    · have t1 : decide (n < 0) = false := by simp; omega
      by_cases hs : (l.length : Int) - p < n
      · have hr : rRaw n l p 0 = ([], p, 3) := by unfold rRaw; rw [if_neg (by simp), if_neg hn, if_pos hs]
        rw [hr]
        clear hr h
        generalize bs l = sb at c0 hz
        have w1 : IntKind.i64.wrap ((sb.size : Int) - (p : Int)) = (sb.size : Int) - (p : Int) := IntWalk.i64_in _ (by omega)
        have t2 : (sb.size : Int) - (p : Int) < n := by omega
        clear hz hp hl hn hs
        go_enter Try.func42, Try.ntmps42
        go_wp2
        go_quiet (fail)
        go_wp2
        go_ret
        exact ⟨rfl, (HR.out _).setErr 3, keep_ne_at _ _⟩
      · obtain ⟨m, rfl⟩ : ∃ m : Nat, n = m := ⟨n.toNat, by omega⟩
        have hr : rRaw (m : Int) l p 0 = ((l.drop p).take m, p + m, 0) := by unfold rRaw; rw [if_neg (by simp), if_neg hn, if_neg hs]; rfl
        rw [hr]
        have hx := bs_extract l p (p + m)
        rw [show p + m - p = m by omega] at hx
        rw [← hx]
        clear hr h hx
        generalize bs l = sb at c0 hz ⊢
        have w1 : IntKind.i64.wrap ((sb.size : Int) - (p : Int)) = (sb.size : Int) - (p : Int) := IntWalk.i64_in _ (by omega)
        have t2 : decide ((sb.size : Int) - (p : Int) < (m : Int)) = false := by simp; omega
        have t3 : (p : Int) + (m : Int) ≤ (sb.size : Int) := by omega
        have t4 : (p : Int) ≤ (p : Int) + (m : Int) := by omega
        have t5 : (sb.size : Int) ≤ 281474976710656 := by omega
        have HX : Hid (((p + m : Nat) : Int) = (p : Int) + (m : Int)) := by show ((p + m : Nat) : Int) = (p : Int) + (m : Int); omega
        clear hz hp hl hn hs
        go_enter Try.func42, Try.ntmps42
        go_wp2
        go_quiet (fail)
        go_wp2
        go_quiet (fail)
        go_wp2
        go_ret
        exact ⟨rfl, (HR.out _).setAt (p + m), keep_ne_at _ _⟩
  · have hr : rRaw n l p e = ([], p, e) := by unfold rRaw; rw [if_pos he]
    obtain ⟨-, -, c2, -, -⟩ := h.cells
    have te : (e != 0) = true := by simpa using he
    rw [hr]
    clear hr h
    go_enter Try.func42, Try.ntmps42
    go_wp2
    go_ret
    exact ⟨rfl, HR.out 0, Keep.refl _ _⟩
set_option maxHeartbeats 400000 in
set_option maxRecDepth 100000 in
theorem qend_any {w : World} {r : Nat} {l p e} (h : Rq w r l p e) : Calls Try.prog 43 #[.pointer (some ⟨r, 0, none⟩)] w fun v w' => v = .returned (.int .i64 (endOf l.length p e)) ∧ Below w.heap.size w w' := by
  obtain ⟨c0, c1, c2, f1, f2⟩ := h.cells
  have hz := bs_size l
  obtain ⟨sb, hsb⟩ : ∃ sb, sb = bs l := ⟨_, rfl⟩
  rw [← hsb] at c0 hz
  clear h f1 f2 hsb
  by_cases he : e = 0
  · subst he
    by_cases hp : p < l.length
    · have e1 : endOf l.length p 0 = 5 := by unfold endOf; rw [if_neg (by omega), if_pos hp]
      have t1 : (p : Int) < (sb.size : Int) := by omega
      rw [e1]
      clear hz hp e1
      go_enter Try.func43, Try.ntmps43
      go_wp2
      go_quiet (fail)
      go_wp2
      go_ret
      exact ⟨rfl, below_drewN (Below.refl _ _) _⟩
    · have e1 : endOf l.length p 0 = 0 := by unfold endOf; rw [if_neg (by omega), if_neg hp]
      have t1 : ¬ ((p : Int) < (sb.size : Int)) := by omega
      rw [e1]
      clear hz hp e1
      go_enter Try.func43, Try.ntmps43
      go_wp2
      go_quiet (fail)
      go_wp2
      go_ret
      exact ⟨rfl, below_drewN (Below.refl _ _) _⟩
  · have e1 : endOf l.length p e = e := by unfold endOf; rw [if_pos he]
    have te : (e != 0) = true := by simpa using he
    rw [e1]
    clear hz e1 c0 c1
    go_enter Try.func43, Try.ntmps43
    go_wp2
    go_ret
    exact ⟨rfl, Below.refl _ _⟩
end Go.Proofs.Ytekeaoolodmdaaa
