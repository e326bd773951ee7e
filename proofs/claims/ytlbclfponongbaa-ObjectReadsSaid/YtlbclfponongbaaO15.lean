import Derived.Test.YtlbclfponongbaaWc
/- An object's frame. -/
namespace Go.Proofs.Ytlbclfponongbaa
open Go.RowKit Classical
def lt (k : Int) : UInt8 := if k = 1 then 98 else if k = 2 then 116 else 99
def fb (k : Int) (l : List UInt8) : List UInt8 := lt k :: tx l
set_option maxHeartbeats 2000000 in
set_option maxRecDepth 100000 in
theorem frame_any (k : Int) (l : List UInt8) (w : World) :
    Calls Try.prog 8 #[.agg #[.int .i64 k, .string (bs l)]] w fun e w' => (objOk k l → e = .returned (.tuple #[.string (bs (fb k l)), .int .i64 0])) ∧ (¬ objOk k l → e = .returned (.tuple #[.string ⟨#[]⟩, .int .i64 1])) ∧ Below w.heap.size w w' := by
  have HR := Lib.hid (fun W => right_any k l W)
  have L0 : Hid (Below w.heap.size w (w.alloc (.cells #[.int .i64 k, .string (bs l)] 24))) := (Below.refl _ _).alloc (Nat.le_refl _) _
  by_cases ho : objOk k l
  · rw [decide_eq_true ho] at HR
    have hl := ho.1
    have hk : k = 1 ∨ k = 2 ∨ k = 3 := by rcases ho.2 with h | h | h; exact Or.inl h; exact Or.inr (Or.inl h.1); exact Or.inr (Or.inr h.1)
    have HO := Lib.hid ho
    have HL := Lib.hid hl
    clear ho hl
    rcases hk with rfl | rfl | rfl
    · go_enter Try.func8, Try.ntmps8
      go_wp2_with fail
      refine (HR.out _).mono ?_
      rintro e w2 ⟨rfl, L2⟩
      have L3 := Lib.hid (L0.out.trans (L2.mono L0.out.size))
      have c0 : w2.cell? ⟨w.heap.size, 0, none⟩ = some (.int .i64 1) := by rw [L2.cell (by simp)]; exact cell_of_row _ _ _ _ _ _ (heap_alloc_new _ _)
      have c1 : w2.cell? ⟨w.heap.size, 1, none⟩ = some (.string (bs l)) := by rw [L2.cell (by simp)]; exact cell_of_row _ _ _ _ _ _ (heap_alloc_new _ _)
      have LT : Hid (w.heap.size < w2.heap.size) := block_lt_of_cell c0
      clear L2 L0 HR
      go_upto_region 5 with fail
      have W0 : Hid (Wr (· < w2.heap.size) (w2.alloc (.cells #[.slice none 0 0] 55)) w2.heap.size []) := Wr.new fun k h => h
      have K0 : Hid (Keep (· < w2.heap.size) w2 (w2.alloc (.cells #[.slice none 0 0] 55))) := (Keep.refl _ w2).alloc _
      change Code.wp _ _ _ _ (w2.alloc (.cells #[.slice none 0 0] 55))
      have HS : Hid (w2.heap.size + 1 = (w2.alloc (.cells #[.slice none 0 0] 55)).heap.size) := by show _ = _; simp
      go_wp2_with fail
      rw [show (⟨#[98, 116, 99]⟩ : ByteArray).extract 0 1 = bs [98] from rfl]
      refine (raw_call W0.out [98] _ HS.out (by decide)).mono ?_
      rintro e w3 ⟨rfl, g1, k1⟩
      have G1 := Lib.hid g1
      have K1 := Lib.hid (K0.out.trans k1)
      have c3 : w3.cell? ⟨w.heap.size, 1, none⟩ = some (.string (bs l)) := K1.out.cell LT.out c1
      clear g1 k1 W0 K0 HS c1 c0
      go_wp2_with fail
      refine (text_call G1.out l _ rfl (by have := HL.out; rw [List.nil_append, List.length_singleton]; omega)).mono ?_
      rintro e w4 ⟨rfl, g1, k1⟩
      have G2 := Lib.hid g1
      have K2 := Lib.hid (K1.out.trans k1)
      clear g1 k1 G1 K1 c3
      go_wp2_with fail
      refine (wstr_any G2.out).mono ?_
      rintro e w5 ⟨rfl, rfl⟩
      go_wp2
      go_ret2
      exact ⟨fun _ => rfl, fun h => absurd HO.out h, L3.out.trans ((K2.out.below (Nat.le_refl _)).mono L3.out.size)⟩
    · go_enter Try.func8, Try.ntmps8
      go_wp2_with fail
      refine (HR.out _).mono ?_
      rintro e w2 ⟨rfl, L2⟩
      have L3 := Lib.hid (L0.out.trans (L2.mono L0.out.size))
      have c0 : w2.cell? ⟨w.heap.size, 0, none⟩ = some (.int .i64 2) := by rw [L2.cell (by simp)]; exact cell_of_row _ _ _ _ _ _ (heap_alloc_new _ _)
      have c1 : w2.cell? ⟨w.heap.size, 1, none⟩ = some (.string (bs l)) := by rw [L2.cell (by simp)]; exact cell_of_row _ _ _ _ _ _ (heap_alloc_new _ _)
      have LT : Hid (w.heap.size < w2.heap.size) := block_lt_of_cell c0
      clear L2 L0 HR
      go_upto_region 5 with fail
      have W0 : Hid (Wr (· < w2.heap.size) (w2.alloc (.cells #[.slice none 0 0] 55)) w2.heap.size []) := Wr.new fun k h => h
      have K0 : Hid (Keep (· < w2.heap.size) w2 (w2.alloc (.cells #[.slice none 0 0] 55))) := (Keep.refl _ w2).alloc _
      change Code.wp _ _ _ _ (w2.alloc (.cells #[.slice none 0 0] 55))
      have HS : Hid (w2.heap.size + 1 = (w2.alloc (.cells #[.slice none 0 0] 55)).heap.size) := by show _ = _; simp
      go_wp2_with fail
      rw [show (⟨#[98, 116, 99]⟩ : ByteArray).extract 1 2 = bs [116] from rfl]
      refine (raw_call W0.out [116] _ HS.out (by decide)).mono ?_
      rintro e w3 ⟨rfl, g1, k1⟩
      have G1 := Lib.hid g1
      have K1 := Lib.hid (K0.out.trans k1)
      have c3 : w3.cell? ⟨w.heap.size, 1, none⟩ = some (.string (bs l)) := K1.out.cell LT.out c1
      clear g1 k1 W0 K0 HS c1 c0
      go_wp2_with fail
      refine (text_call G1.out l _ rfl (by have := HL.out; rw [List.nil_append, List.length_singleton]; omega)).mono ?_
      rintro e w4 ⟨rfl, g1, k1⟩
      have G2 := Lib.hid g1
      have K2 := Lib.hid (K1.out.trans k1)
      clear g1 k1 G1 K1 c3
      go_wp2_with fail
      refine (wstr_any G2.out).mono ?_
      rintro e w5 ⟨rfl, rfl⟩
      go_wp2
      go_ret2
      exact ⟨fun _ => rfl, fun h => absurd HO.out h, L3.out.trans ((K2.out.below (Nat.le_refl _)).mono L3.out.size)⟩
    · go_enter Try.func8, Try.ntmps8
      go_wp2_with fail
      refine (HR.out _).mono ?_
      rintro e w2 ⟨rfl, L2⟩
      have L3 := Lib.hid (L0.out.trans (L2.mono L0.out.size))
      have c0 : w2.cell? ⟨w.heap.size, 0, none⟩ = some (.int .i64 3) := by rw [L2.cell (by simp)]; exact cell_of_row _ _ _ _ _ _ (heap_alloc_new _ _)
      have c1 : w2.cell? ⟨w.heap.size, 1, none⟩ = some (.string (bs l)) := by rw [L2.cell (by simp)]; exact cell_of_row _ _ _ _ _ _ (heap_alloc_new _ _)
      have LT : Hid (w.heap.size < w2.heap.size) := block_lt_of_cell c0
      clear L2 L0 HR
      go_upto_region 5 with fail
      have W0 : Hid (Wr (· < w2.heap.size) (w2.alloc (.cells #[.slice none 0 0] 55)) w2.heap.size []) := Wr.new fun k h => h
      have K0 : Hid (Keep (· < w2.heap.size) w2 (w2.alloc (.cells #[.slice none 0 0] 55))) := (Keep.refl _ w2).alloc _
      change Code.wp _ _ _ _ (w2.alloc (.cells #[.slice none 0 0] 55))
      have HS : Hid (w2.heap.size + 1 = (w2.alloc (.cells #[.slice none 0 0] 55)).heap.size) := by show _ = _; simp
      go_wp2_with fail
      rw [show (⟨#[98, 116, 99]⟩ : ByteArray).extract 2 3 = bs [99] from rfl]
      refine (raw_call W0.out [99] _ HS.out (by decide)).mono ?_
      rintro e w3 ⟨rfl, g1, k1⟩
      have G1 := Lib.hid g1
      have K1 := Lib.hid (K0.out.trans k1)
      have c3 : w3.cell? ⟨w.heap.size, 1, none⟩ = some (.string (bs l)) := K1.out.cell LT.out c1
      clear g1 k1 W0 K0 HS c1 c0
      go_wp2_with fail
      refine (text_call G1.out l _ rfl (by have := HL.out; rw [List.nil_append, List.length_singleton]; omega)).mono ?_
      rintro e w4 ⟨rfl, g1, k1⟩
      have G2 := Lib.hid g1
      have K2 := Lib.hid (K1.out.trans k1)
      clear g1 k1 G1 K1 c3
      go_wp2_with fail
      refine (wstr_any G2.out).mono ?_
      rintro e w5 ⟨rfl, rfl⟩
      go_wp2
      go_ret2
      exact ⟨fun _ => rfl, fun h => absurd HO.out h, L3.out.trans ((K2.out.below (Nat.le_refl _)).mono L3.out.size)⟩
  · rw [decide_eq_false ho] at HR
    have NO := Lib.hid ho
    clear ho
    go_enter Try.func8, Try.ntmps8
    go_wp2_with fail
    refine (HR.out _).mono ?_
    rintro e w2 ⟨rfl, L2⟩
    have L3 := Lib.hid (L0.out.trans (L2.mono L0.out.size))
    clear L2 L0 HR
    go_wp2
    go_ret2
    exact ⟨fun h => absurd h NO.out, fun _ => rfl, L3.out⟩
end Go.Proofs.Ytlbclfponongbaa
