import Derived.Test.YtdfoejgkjfklcaaV5
/- A number read. -/
namespace Go.Proofs.Ytdfoejgkjfklcaa
open Go.RowKit
theorem bs_extract (l : List UInt8) (a b : Nat) : (bs l).extract a b = bs ((l.drop a).take (b - a)) := by
  apply ByteArray.ext
  rw [ByteArray.data_extract]
  show l.toArray.extract a b = ((l.drop a).take (b - a)).toArray
  simp
theorem bs_drop (l : List UInt8) (a : Nat) : (bs l).extract a (bs l).size = bs (l.drop a) := by
  rw [bs_extract, bs_size, List.take_of_length_le (by simp)]
/- a number read: the number, the place, the error -/
def rNum (most : Int) (l : List UInt8) (p : Nat) (e : Int) : Nat × Nat × Int :=
  if e ≠ 0 then (0, p, e) else if (rd most (l.drop p) 0 0).2.2 ≠ 0 then (0, p, (rd most (l.drop p) 0 0).2.2) else ((rd most (l.drop p) 0 0).1, p + (rd most (l.drop p) 0 0).2.1, 0)
theorem rd_size {most : Int} {l : List UInt8} (h : (rd most l 0 0).2.2 = 0) : (rd most l 0 0).2.1 ≤ l.length := by
  obtain ⟨m, rest, h1, h2, h3, h4, h5, h6⟩ := rd_one most l 0 0 (rd most l 0 0).1 (rd most l 0 0).2.1 (by rw [← h])
  rw [h3]
  have := congrArg List.length h1
  rw [List.length_append] at this
  omega
theorem rNum_le (most : Int) (l : List UInt8) (p : Nat) (e : Int) (hp : p ≤ l.length) : (rNum most l p e).2.1 ≤ l.length := by
  unfold rNum
  split
  · exact hp
  · split
    · exact hp
    · rename_i h1 h2
      have h3 := rd_size (Classical.not_not.1 h2)
      rw [List.length_drop] at h3
      show p + _ ≤ _
      omega
theorem keep_ne_at {w : World} {r o : Nat} (v : Value) (q : Nat) : Keep (fun k => k ≠ r) w ((w.drewN q).setCell ⟨r, o, none⟩ v) := ((Keep.refl _ w).drewN q).setCell (fun h => h rfl) v
set_option maxHeartbeats 400000 in
set_option maxRecDepth 100000 in
theorem rnum_any {w : World} {r : Nat} {l p e} (most : Int) (h : Rd w r l p e) (hp : p ≤ l.length) (hl : l.length ≤ 281474976710656) :
    Calls Try.prog 22 #[.pointer (some ⟨r, 0, none⟩), .int .i64 most] w fun v w' => v = .returned (.int .i64 (rNum most l p e).1) ∧ Rd w' r l (rNum most l p e).2.1 (rNum most l p e).2.2 ∧ Keep (fun k => k ≠ r) w w' := by
  have HE := err_any h
  by_cases he : e = 0
  · subst he
    obtain ⟨c0, c1, c2, f1, f2⟩ := h.cells
    have HN : Hid (∀ w' : World, Calls Try.prog 44 #[.string (bs (l.drop p)), .int .i64 most] w' fun e w'' => e = .returned (.tuple #[.int .i64 (rd most (l.drop p) 0 0).1, .int .i64 (rd most (l.drop p) 0 0).2.1, .int .i64 (rd most (l.drop p) 0 0).2.2]) ∧ w' = w'') := fun w' => num_any (l.drop p) most w' (by rw [List.length_drop]; omega)
    have hs := @rd_size most (l.drop p)
    have hlen : (l.drop p).length = l.length - p := List.length_drop
    have hr : rNum most l p 0 = (if (rd most (l.drop p) 0 0).2.2 ≠ 0 then (0, p, (rd most (l.drop p) 0 0).2.2) else ((rd most (l.drop p) 0 0).1, p + (rd most (l.drop p) 0 0).2.1, 0)) := by
      unfold rNum
      rw [if_neg (by simp)]
    have hx := bs_drop l p
    have hz := bs_size l
    have HR : Hid (∀ q, Rd (w.drewN q) r l p 0) := fun q => h.keep ((Keep.refl (fun _ => True) w).drewN q) trivial
    rw [← hx] at HN
    clear hx
    rw [hr]
    clear hr h
    generalize (rd most (l.drop p) 0 0).1 = n at HN hs ⊢
    generalize (rd most (l.drop p) 0 0).2.1 = size at HN hs ⊢
    generalize (rd most (l.drop p) 0 0).2.2 = er at HN hs ⊢
    generalize bs l = sb at c0 HN hz
    have pz : (p : Int) ≤ (sb.size : Int) := by omega
    by_cases hr : er = 0
    · subst hr
      rw [if_neg (by simp)]
      have hs := hs rfl
      rw [hlen] at hs
      have h9 : (p : Int) + (size : Int) ≤ 9223372036854775807 := by omega
      clear hlen hz hp hl
      go_enter Try.func22, Try.ntmps22
      go_wp2_with fail
      refine HE.mono ?_
      rintro v w1 ⟨rfl, rfl⟩
      go_wp2
      go_quiet ((go_at_call 44; exact Calls.quiet_of_same ((HN.out _).mono fun e w' h => ⟨h.1, h.2.symm⟩)))
      go_wp2
      go_ret
      exact ⟨rfl, (HR.out _).setAt (p + size), keep_ne_at _ _⟩
    · rw [if_pos hr]
      have hr2 : (er != 0) = true := by simp [hr]
      clear hs hlen hz hp hl hr
      go_enter Try.func22, Try.ntmps22
      go_wp2_with fail
      refine HE.mono ?_
      rintro v w1 ⟨rfl, rfl⟩
      go_wp2
      go_quiet ((go_at_call 44; exact Calls.quiet_of_same ((HN.out _).mono fun e w' h => ⟨h.1, h.2.symm⟩)))
      go_wp2
      go_ret
      exact ⟨rfl, (HR.out _).setErr er, keep_ne_at _ _⟩
  · have hr : rNum most l p e = (0, p, e) := by unfold rNum; rw [if_pos he]
    have HR : Hid (Rd w r l p e) := h
    rw [hr]
    clear hr h
    go_enter Try.func22, Try.ntmps22
    go_wp2_with fail
    refine HE.mono ?_
    rintro v w1 ⟨rfl, rfl⟩
    go_wp2
    go_ret
    exact ⟨rfl, HR.out, Keep.refl _ _⟩
end Go.Proofs.Ytdfoejgkjfklcaa
