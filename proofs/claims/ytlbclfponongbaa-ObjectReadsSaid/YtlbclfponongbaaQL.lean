import Derived.Test.YtlbclfponongbaaQ9
/- The law's function of ObjectReads. -/
namespace Go.Proofs.Ytlbclfponongbaa
open Go.RowKit Classical
set_option maxHeartbeats 4000000 in
set_option maxRecDepth 100000 in
theorem reads_two (f : List UInt8) (k1 : Int) (l1 : List UInt8) (er : Int) (ok : Bool) (hk : (er = 0 ∧ ok = true) ∨ (er = 2 ∧ ok = false)) (w : World) (hf : f.length ≤ 6000)
    (R1 : Hid (∀ W, Calls Try.prog 5 #[.string (bs f)] W fun e w' => e = .returned (.tuple #[.agg #[.int .i64 k1, .string (bs l1)], .int .i64 er]) ∧ Below W.heap.size W w'))
    (R2 : Hid (∀ W, Calls Try.prog 6 #[.string (bs f)] W fun e w' => e = .returned (.tuple #[.agg #[.int .i64 k1, .string (bs l1)], .bool ok]) ∧ Below W.heap.size W w')) :
    Calls Try.prog 3 #[.string (bs f)] w fun e w' => e = .returned (.bool true) ∧ Below w.heap.size w w' := by
  have HA := Lib.hid (fun W => alive_any W)
  have t1 : ((bs f).size : Int) ≤ 6000 := by rw [bs_size]; omega
  have EQ := fun W => eqlObj k1 k1 l1 l1 W
  rw [decide_eq_true (⟨rfl, rfl⟩ : k1 = k1 ∧ l1 = l1)] at EQ
  have OB := Lib.hid (fun W => Ob.start W k1 l1)
  have OC : Hid (∀ (w0 : World) z W, Ob w0 z k1 l1 W → W.cell? ⟨z, 0, none⟩ = some (.int .i64 k1) ∧ W.cell? ⟨z, 1, none⟩ = some (.string (bs l1))) := fun w0 z W h => h.cells
  obtain ⟨lb, hlb⟩ : ∃ lb, lb = bs l1 := ⟨_, rfl⟩
  rw [← hlb] at R1 R2 EQ OB OC
  generalize bs f = sb at R1 R2 t1 ⊢
  clear hlb hf
  go_enter Try.func3, Try.ntmps3
  go_wp2_with fail
  refine (HA.out _).mono ?_
  rintro e w1 ⟨rfl, L1⟩
  have L1' := Lib.hid L1
  clear L1
  go_wp2_with fail
  refine (R1.out _).mono ?_
  rintro e w2 ⟨rfl, L2⟩
  have L2' := Lib.hid (L1'.out.trans (L2.mono L1'.out.size))
  have O2 := Lib.hid (OB.out w2)
  clear L2 R1 L1'
  go_upto_region 6 with fail
  change Code.wp _ _ _ _ (w2.alloc (.cells #[.int .i64 k1, .string lb] 24))
  have L3 := Lib.hid (L2'.out.trans (O2.out.keep.mono L2'.out.size))
  generalize hw3 : w2.alloc (.cells #[.int .i64 k1, .string lb] 24) = w3 at O2 L3 ⊢
  generalize w2.heap.size = z1 at O2 ⊢
  clear hw3 L2'
  go_wp2_with fail
  refine (R2.out _).mono ?_
  rintro e w4 ⟨rfl, L4⟩
  have O4 := Lib.hid (O2.out.step L4)
  have L4' := Lib.hid (L3.out.trans (L4.mono L3.out.size))
  have P4 := Lib.hid (OB.out w4)
  clear L4 R2 O2 L3
  go_upto_region 7 with fail
  change Code.wp _ _ _ _ (w4.alloc (.cells #[.int .i64 k1, .string lb] 24))
  have O5 := Lib.hid (O4.out.step P4.out.keep)
  have L5 := Lib.hid (L4'.out.trans (P4.out.keep.mono L4'.out.size))
  generalize hw5 : w4.alloc (.cells #[.int .i64 k1, .string lb] 24) = w5 at P4 O5 L5 ⊢
  generalize w4.heap.size = z2 at P4 ⊢
  clear hw5 L4' O4
  go_wp2_with fail
  refine (HA.out _).mono ?_
  rintro e w6 ⟨rfl, L6⟩
  obtain ⟨c0, c1⟩ := OC.out _ _ _ (O5.out.step L6)
  obtain ⟨d0, d1⟩ := OC.out _ _ _ (P4.out.step L6)
  have L7 := Lib.hid (L5.out.trans (L6.mono L5.out.size))
  clear L6 O5 P4 L5 HA OB OC
  rcases hk with ⟨rfl, rfl⟩ | ⟨rfl, rfl⟩
  · go_wp2
    go_ret
    exact ⟨rfl, L7.out⟩
  · go_wp2
    go_ret
    exact ⟨rfl, L7.out⟩
set_option maxHeartbeats 1000000 in
theorem reads_great (sb : ByteArray) (w : World) (h : 6000 < sb.size) :
    Calls Try.prog 3 #[.string sb] w fun e w' => e = .returned (.bool true) ∧ Below w.heap.size w w' := by
  have HA := Lib.hid (fun W => alive_any W)
  have t1 : (6000 : Int) < (sb.size : Int) := by omega
  clear h
  go_enter Try.func3, Try.ntmps3
  go_wp2_with fail
  refine (HA.out _).mono ?_
  rintro e w1 ⟨rfl, L1⟩
  go_wp2_with fail
  refine (HA.out _).mono ?_
  rintro e w2 ⟨rfl, L2⟩
  go_wp2
  go_ret
  exact ⟨rfl, L1.trans (L2.mono L1.size)⟩
theorem objectreads_any (f : List UInt8) (w : World) (hf : f.length ≤ 9223372036854775807) :
    Calls Try.prog 3 #[.string (bs f)] w fun e w' => e = .returned (.bool true) ∧ Below w.heap.size w w' := by
  by_cases h : 6000 < f.length
  · exact reads_great (bs f) w (by rw [bs_size]; exact h)
  · by_cases hF : isFrame f
    · obtain ⟨k, l, hF⟩ := hF
      exact reads_two f k l 0 true (.inl ⟨rfl, rfl⟩) w (by omega) (fun W => (oread_any f W (by omega)).mono fun e w' h => ⟨h.1 k l hF, h.2.2⟩) (fun W => (qread_any f W (by omega)).mono fun e w' h => ⟨h.1 k l hF, h.2.2⟩)
    · exact reads_two f 0 [] 2 false (.inr ⟨rfl, rfl⟩) w (by omega) (fun W => (oread_any f W (by omega)).mono fun e w' h => ⟨h.2.1 hF, h.2.2⟩) (fun W => (qread_any f W (by omega)).mono fun e w' h => ⟨h.2.1 hF, h.2.2⟩)
end Go.Proofs.Ytlbclfponongbaa
