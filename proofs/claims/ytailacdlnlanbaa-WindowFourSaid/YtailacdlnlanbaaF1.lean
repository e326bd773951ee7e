import Derived.Test.YtailacdlnlanbaaW5
import Derived.Deep.Cut
/- WindowFour's function. -/
namespace Go.Proofs.Ytailacdlnlanbaa
open Go.RowKit
theorem Byt.swap {w : World} {b : Nat} {f : Nat → UInt8} (h : Byt w b 16 f) (i k : Nat) : Byt ((w.setCell ⟨b, i, none⟩ (.int .u8 ((f k).toNat : Int))).setCell ⟨b, k, none⟩ (.int .u8 ((f i).toNat : Int))) b 16 (swapF f i k) := by
  refine (h.set i (f k) (fun j => if j = i then f k else f j) fun j _ => rfl).set k (f i) _ fun j _ => ?_
  unfold swapF
  by_cases c : j = i
  · subst c
    rw [if_pos rfl, if_pos rfl]
    by_cases d : j = k
    · rw [if_pos d, d]
    · rw [if_neg d]
  · rw [if_neg c, if_neg c]
theorem Byt.drew {w : World} {b m : Nat} {g : Nat → UInt8} (h : Byt w b m g) : Byt w.drew b m g := h
theorem Byt.below {w w' : World} {b m : Nat} {g : Nat → UInt8} (h : Byt w b m g) (hb : Below w.heap.size w w') : Byt w' b m g := by
  have hl := h.lt
  obtain ⟨cs, lo, hi, h1, h2, h3⟩ := h
  exact ⟨cs, lo, hi, by rw [hb.block b hl]; exact h1, h2, h3⟩
set_option maxHeartbeats 2000000 in
theorem four_any (s : ByteArray) (x y : UInt8) (w : World) (hs : s.size ≤ 9223372036854775807) :
    Calls Try.prog 5 #[.string s, .int .u8 (x.toNat : Int), .int .u8 (y.toNat : Int)] w fun e w' => e = .returned (.bool true) ∧ Below w.heap.size w w' := by
  by_cases h1 : s.size < 16
  · have b1 : (s.size : Int) < 16 := by omega
    go_enter Try.func5, Try.ntmps5
    go_wp2_with fail
    refine (alive_any _).mono ?_
    rintro e w1 ⟨rfl, B1⟩
    go_wp2_with fail
    refine (alive_any _).mono ?_
    rintro e w2 ⟨rfl, B2⟩
    go_wp2
    go_ret
    exact ⟨rfl, B1.trans (B2.mono B1.size)⟩
  · have b1 : (16 : Int) ≤ (s.size : Int) := by omega
    obtain ⟨i, hi⟩ : ∃ i, i = x.toNat % 16 := ⟨_, rfl⟩
    obtain ⟨r, hr⟩ : ∃ r, r = y.toNat % 4 := ⟨_, rfl⟩
    obtain ⟨k, hk⟩ : ∃ k, k = (i + 4 * r) % 16 := ⟨_, rfl⟩
    have hik : i % 4 = k % 4 := by omega
    have i16 : i < 16 := by omega
    have r4 : r < 4 := by omega
    have k16 : k < 16 := by omega
    have x0 : (0 : Int) ≤ (x.toNat : Int) := by omega
    have y0 : (0 : Int) ≤ (y.toNat : Int) := by omega
    have m1 : (x.toNat : Int).tmod 16 = (i : Int) := by rw [Int.tmod_eq_emod_of_nonneg x0]; omega
    have m2 : (x.toNat : Int) % 16 = (i : Int) := by omega
    have m3 : (y.toNat : Int).tmod 4 = (r : Int) := by rw [Int.tmod_eq_emod_of_nonneg y0]; omega
    have m4 : (y.toNat : Int) % 4 = (r : Int) := by omega
    have m5 : ((i : Int) + 4 * (r : Int)).tmod 16 = (k : Int) := by rw [Int.tmod_eq_emod_of_nonneg (by omega)]; omega
    have m6 : ((i : Int) + 4 * (r : Int)) % 16 = (k : Int) := by omega
    have w1 : IntKind.i64.wrap (4 * (r : Int)) = 4 * (r : Int) := IntWalk.i64_in _ (by omega)
    have w2 : IntKind.i64.wrap ((i : Int) + 4 * (r : Int)) = (i : Int) + 4 * (r : Int) := IntWalk.i64_in _ (by omega)
    obtain ⟨f, hf⟩ : ∃ f, f = sAt s := ⟨_, rfl⟩
    obtain ⟨t, ht⟩ : ∃ t, t = s.extract 0 16 := ⟨_, rfl⟩
    have ts : t.size = 16 := by rw [ht, size_ext s 0 16 (by omega) (by omega)]
    have tf : ∀ j, j < 16 → sAt t j = f j := fun j hj => by rw [ht, hf, sAt_ext s 0 16 j (by omega) (by omega) (by omega), Nat.zero_add]
    have C1 : Hid (∀ W : World, Calls Try.prog 9 #[.string t] W fun e w' => ∃ c d, e = .returned (.tuple #[.complex .f64 c d, .bool true]) ∧ Cx c d (wx f 16) (wy f 16) ∧ Below W.heap.size W w') := fun W => of_win t f W ts tf
    have C2 : Hid (∀ W : World, Calls Try.prog 9 #[.string (str 16 (swapF f i k))] W fun e w' => ∃ c d, e = .returned (.tuple #[.complex .f64 c d, .bool true]) ∧ Cx c d (wx f 16) (wy f 16) ∧ Below W.heap.size W w') := fun W => by
      have := of_win (str 16 (swapF f i k)) (swapF f i k) W (str_size _ _) (fun j hj => str_at _ _ _ hj)
      rw [(wx_four f i k i16 k16 hik).1, (wx_four f i k i16 k16 hik).2] at this
      exact this
    have et : s.extract 0 16 = t := ht.symm
    have TF := Lib.hid tf
    have TS := Lib.hid ts
    clear hi hr hk hik hf ht h1 tf ts
    go_enter Try.func5, Try.ntmps5
    go_wp2_with fail
    refine (alive_any _).mono ?_
    rintro e u1 ⟨rfl, B1⟩
    obtain ⟨u2, cap, hcv, hB, L2⟩ : ∃ u2 cap, (convert 9 36 (.string t)).run Try.prog u1 = .ok (.slice (some ⟨u1.heap.size, 0, none⟩) 16 cap) u2 ∧ Byt u2 u1.heap.size 16 f ∧ Below w.heap.size w u2 := by
      have hc := run_bytes_of_string (P := Try.prog) u1 9 36 5 t ty9 ty36 ty5
      rw [TS.out] at hc
      refine ⟨_, grownCap u1 16 0 5, hc, ?_, B1.drew.alloc B1.size _⟩
      have hn := Byt.new u1.drew t (grownCap u1 16 0 5) (bytesRow t (grownCap u1 16 0 5)).size ((bytesRow t (grownCap u1 16 0 5)).size + 1) (bytesRow_lo _ _)
      rw [TS.out] at hn
      obtain ⟨cs, lo', hi', q1, q2, q3⟩ := hn
      exact ⟨cs, lo', hi', q1, q2, fun j hj => by rw [q3 j hj]; unfold bv; rw [TF.out j hj]⟩
    have hbw : w.heap.size ≤ u1.heap.size := B1.size
    have HS := Lib.hid hs
    clear hs
    go_upto_region 8 with fail
    have ci := hB.cell i i16
    have ck := hB.cell k k16
    have fi := hB.frozen i i16
    have fk := hB.frozen k k16
    have HB := Lib.hid hB
    have h2 := hB.set i (f k) (fun j => if j = i then f k else f j) fun j _ => rfl
    obtain ⟨vk, hvk⟩ : ∃ vk, (u2.setCell ⟨u1.heap.size, i, none⟩ (.int .u8 ((f k).toNat : Int))).cell? ⟨u1.heap.size, k, none⟩ = some vk := ⟨_, h2.cell k k16⟩
    have hfk := h2.frozen k k16
    clear h2
    have gi : (i : Int) < 16 := by omega
    have gk : (k : Int) < 16 := by omega
    clear hB m1 m2 m3 m4 m5 m6 w1 w2 hcv
    generalize u1.heap.size = z at *
    go_region
    obtain ⟨u4, hu4⟩ : ∃ u4, u4 = ((u2.setCell ⟨z, i, none⟩ (.int .u8 ((f k).toNat : Int))).setCell ⟨z, k, none⟩ (.int .u8 ((f i).toNat : Int))).drew := ⟨_, rfl⟩
    have B4 : Byt u4 z 16 (swapF f i k) := by rw [hu4]; exact (HB.out.swap i k).drew
    have L4 : Below w.heap.size w u4 := by rw [hu4]; exact ((L2.setCell hbw _).setCell hbw _).drew
    rw [← hu4]
    have HB4 := Lib.hid B4
    have HL4 := Lib.hid L4
    clear hu4 B4 L4 hvk hfk ci ck fi fk HB L2 TF
    go_wp2_with fail
    refine (C1.out _).mono ?_
    rintro e u5 ⟨c1, d1, rfl, hc, B5⟩
    have HC1 := Lib.hid hc
    have HB5 := Lib.hid (HB4.out.below B5)
    have HL5 := Lib.hid (HL4.out.trans (B5.mono HL4.out.size))
    have hcb := conv_byt u5 z 16 cap _ HB5.out
    clear hc B5 HB4 HL4 C1
    generalize str 16 (swapF f i k) = v at C2 hcb
    go_wp2_with fail
    refine (C2.out _).mono ?_
    rintro e u6 ⟨c2, d2, rfl, hc, B6⟩
    have o1 := ord_eq HC1.out.1 hc.1 rfl
    have o2 := ord_eq HC1.out.2 hc.2 rfl
    have HL6 := Lib.hid (HL5.out.trans (B6.mono HL5.out.size))
    clear hc B6 HC1 HL5 hcb C2
    go_wp2_with fail
    refine (alive_any _).mono ?_
    rintro e u7 ⟨rfl, B7⟩
    have HL7 := Lib.hid (HL6.out.trans (B7.mono HL6.out.size))
    clear B7 HL6
    go_wp2
    go_ret
    exact ⟨rfl, HL7.out⟩
end Go.Proofs.Ytailacdlnlanbaa
