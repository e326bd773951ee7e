import Derived.Test.YtchdhpnklnfplaaV9
/- The law's function of WireOne. -/
namespace Go.Proofs.Ytchdhpnklnfplaa
open Go.RowKit
theorem end_zero {n p : Nat} {e : Int} (h : endOf n p e = 0) : e = 0 ∧ ¬ p < n := by
  unfold endOf at h
  split at h
  · rename_i c; exact absurd h c
  · rename_i c
    split at h
    · cases h
    · rename_i c2; exact ⟨Classical.not_not.1 c, c2⟩
/- bytes of which a number is read whole are what is written of it -/
theorem one_form {l : List UInt8} (h : endOf l.length (rNum 1099511627775 l 0 0).2.1 (rNum 1099511627775 l 0 0).2.2 = 0) : [] ++ dg (clamp ((rNum 1099511627775 l 0 0).1 : Int)) = l := by
  obtain ⟨he, hp⟩ := end_zero h
  unfold rNum at he hp ⊢
  rw [if_neg (by simp), List.drop_zero] at he hp ⊢
  split at he
  · rename_i c; exact absurd he c
  · rename_i c
    rw [if_neg c] at hp ⊢
    have c0 := Classical.not_not.1 c
    obtain ⟨m, rest, h1, h2, h3, h4, h5, h6⟩ := rd_one 1099511627775 l 0 0 (rd 1099511627775 l 0 0).1 (rd 1099511627775 l 0 0).2.1 (by rw [← c0])
    have e1 : (rd 1099511627775 l 0 0).1 = m := by rw [h2]; simp
    have hlen := congrArg List.length h1
    rw [List.length_append] at hlen
    have hr : rest = [] := List.eq_nil_of_length_eq_zero (by
      have : ¬ (0 + (rd 1099511627775 l 0 0).2.1 < l.length) := hp
      omega)
    show [] ++ dg (clamp ((rd 1099511627775 l 0 0).1 : Int)) = l
    rw [e1, clamp_of (by omega) (by omega), Int.toNat_natCast, List.nil_append]
    rw [hr, List.append_nil] at h1
    exact h1.symm
set_option maxHeartbeats 1000000 in
set_option maxRecDepth 100000 in
theorem one_any (l : List UInt8) (w : World) : Calls Try.prog 5 #[.string (bs l)] w fun e w' => e = .returned (.bool true) ∧ Below w.heap.size w w' := by
  have hz := bs_size l
  by_cases h20 : 20 < l.length
  · obtain ⟨sb, hsb⟩ : ∃ sb, sb = bs l := ⟨_, rfl⟩
    rw [← hsb] at hz ⊢
    have c1 : (20 : Int) < (sb.size : Int) := by omega
    clear hsb hz h20
    go_enter Try.func5, Try.ntmps5
    go_wp2_with fail
    refine (alive_any _).mono ?_
    rintro e w1 ⟨rfl, B1⟩
    go_wp2_with fail
    refine (alive_any _).mono ?_
    rintro e w2 ⟨rfl, B2⟩
    go_wp2
    go_ret
    exact ⟨rfl, B1.trans (B2.mono B1.size)⟩
  · have HN : Hid (∀ W, Calls Try.prog 17 #[.string (bs l)] W fun e w' => ∃ r, e = .returned (.pointer (some ⟨r, 0, none⟩)) ∧ W.heap.size ≤ r ∧ Rd w' r l 0 0 ∧ Below W.heap.size W w') := fun W => new_any l W (by omega)
    have HF := @one_form l
    have HL := Lib.hid h20
    have hq := rNum_le 1099511627775 l 0 0 (Nat.zero_le _)
    obtain ⟨n, q, er, hnum⟩ : ∃ n q er, rNum 1099511627775 l 0 0 = (n, q, er) := ⟨_, _, _, rfl⟩
    have HM : Hid (∀ W r, Rd W r l 0 0 → Calls Try.prog 18 #[.pointer (some ⟨r, 0, none⟩), .int .i64 1099511627775] W fun v w' => v = .returned (.int .i64 n) ∧ Rd w' r l q er ∧ Keep (fun k => k ≠ r) W w') := fun W r hW => by
      have := rnum_any 1099511627775 hW (Nat.zero_le _) (by omega)
      rw [hnum] at this
      exact this
    rw [hnum] at HF hq
    clear hnum
    dsimp only at HF hq
    have HE : Hid (∀ W r, Rd W r l q er → Calls Try.prog 22 #[.pointer (some ⟨r, 0, none⟩)] W fun v w' => v = .returned (.int .i64 (endOf l.length q er)) ∧ Below W.heap.size W w') := fun W r hW => end_any hW
    have c1 : decide ((20 : Int) < ((bs l).size : Int)) = false := by simp [hz]; omega
    generalize endOf l.length q er = en at HF HE
    have HS : Hid (en = 0 → bs l = bs ([] ++ dg (clamp (n : Int)))) := fun h => by rw [HF h]
    have HS2 : Hid (en = 0 → ([] : List UInt8).length ≤ 1099511627776) := fun _ => by decide
    clear HF hz h20 hq
    generalize bs l = sb at HN HS c1 ⊢
    go_enter Try.func5, Try.ntmps5
    go_wp2_with fail
    refine (alive_any _).mono ?_
    rintro e w1 ⟨rfl, B1⟩
    go_wp2_with fail
    refine (HN.out _).mono ?_
    rintro e w2 ⟨r, rfl, hr, hR, hB⟩
    have HR := Lib.hid hR
    have hwr := Lib.hid (Nat.le_trans B1.size hr)
    have K2 : Hid (Keep (· < w.heap.size) w w2) := Keep.of_below (B1.trans (hB.mono B1.size)) fun k hk _ => hk
    clear hR B1 hB hr
    go_wp2_with fail
    refine (HM.out _ _ HR.out).mono ?_
    rintro e w3 ⟨rfl, hR, hK⟩
    have HR3 := Lib.hid hR
    have K3 : Hid (Keep (· < w.heap.size) w w3) := K2.out.trans (hK.mono fun k hk _ => by have := hwr.out; omega)
    clear hR hK K2 HR
    go_wp2_with fail
    refine (HE.out _ _ HR3.out).mono ?_
    rintro e w4 ⟨rfl, hB⟩
    have K4 : Hid (Keep (· < w.heap.size) w w4) := K3.out.trans (Keep.all hB)
    clear hB K3 HR3
    by_cases he : en = 0
    · have HS3 := Lib.hid (HS.out he)
      subst he
      have HW : Hid (Wr (· < w.heap.size) (w4.alloc (.cells #[.slice none 0 0] 27)) w4.heap.size []) := Wr.new fun k hk => Nat.lt_of_lt_of_le hk K4.out.size
      have K5 : Hid (Keep (· < w.heap.size) w (w4.alloc (.cells #[.slice none 0 0] 27))) := K4.out.alloc _
      clear HS HS2 K4
      go_wp2_with fail
      refine (num_call HW.out (n : Int) _ (by simp) (by decide)).mono ?_
      rintro e w5 ⟨rfl, g, k⟩
      have HW5 := Lib.hid g
      have K6 := Lib.hid (K5.out.trans k)
      clear g k HW K5
      go_wp2_with fail
      refine (alive_any _).mono ?_
      rintro e w6 ⟨rfl, B6⟩
      have HW6 := Lib.hid (HW5.out.all B6)
      have K7 := Lib.hid (K6.out.trans (Keep.all B6))
      clear B6 HW5 K6
      go_wp2_with fail
      refine (wstr_any HW6.out).mono ?_
      rw [← HS3.out]
      rintro e w7 ⟨rfl, rfl⟩
      go_wp2
      go_ret
      exact ⟨rfl, K7.out.below (Nat.le_refl _)⟩
    · have c2 : (en != 0) = true := by simp [he]
      clear he HS HS2
      go_wp2_with fail
      refine (alive_any _).mono ?_
      rintro e w5 ⟨rfl, B5⟩
      go_wp2
      go_ret
      exact ⟨rfl, (K4.out.trans (Keep.all B5)).below (Nat.le_refl _)⟩
end Go.Proofs.Ytchdhpnklnfplaa
