import Derived.Test.YtlbclfponongbaaGreatDoorO13m
/- The writer's calls with one part. -/
namespace Go.Proofs.YtlbclfponongbaaGreatDoor
open Go.RowKit
theorem num_call {K : Nat → Prop} {w : World} {h : Nat} {l : List UInt8} (hw : Wr K w h l) (n : Int) (b : Nat) (hb : b = w.heap.size) (hl : l.length ≤ 1099511627776) :
    Calls Tryz.prog 44 #[.pointer (some ⟨h, 0, none⟩), .slice (some ⟨b, 0, none⟩) 1 1] (w.alloc (.cells #[.int .i64 n] 3)) fun e w' => e = .returned (.tuple #[]) ∧ Wr K w' h (l ++ dg (clamp n)) ∧ Keep K w w' := by
  subst hb
  refine (wnum1_any n w.heap.size (hw.alloc _) (cell_of_one (heap_alloc_new _ _)) (by have := hw.lt; omega) hl).mono ?_
  rintro e w' ⟨h1, h2, h3⟩
  exact ⟨h1, h2, ((Keep.refl K w).alloc _).trans h3⟩
theorem text_call {K : Nat → Prop} {w : World} {h : Nat} {l : List UInt8} (hw : Wr K w h l) (s : List UInt8) (b : Nat) (hb : b = w.heap.size) (hl : l.length + s.length ≤ 1099511627770) :
    Calls Tryz.prog 23 #[.pointer (some ⟨h, 0, none⟩), .slice (some ⟨b, 0, none⟩) 1 1] (w.alloc (.cells #[.string (bs s)] 9)) fun e w' => e = .returned (.tuple #[]) ∧ Wr K w' h (l ++ tx s) ∧ Keep K w w' := by
  subst hb
  refine (wtext_any s w.heap.size (hw.alloc _) (cell_of_one (heap_alloc_new _ _)) hl).mono ?_
  rintro e w' ⟨h1, h2, h3⟩
  exact ⟨h1, h2, ((Keep.refl K w).alloc _).trans h3⟩
theorem raw_call {K : Nat → Prop} {w : World} {h : Nat} {l : List UInt8} (hw : Wr K w h l) (s : List UInt8) (b : Nat) (hb : b = w.heap.size) (hl : l.length + s.length ≤ 1099511627770) :
    Calls Tryz.prog 22 #[.pointer (some ⟨h, 0, none⟩), .slice (some ⟨b, 0, none⟩) 1 1] (w.alloc (.cells #[.string (bs s)] 9)) fun e w' => e = .returned (.tuple #[]) ∧ Wr K w' h (l ++ s) ∧ Keep K w w' := by
  subst hb
  refine (wraw_any s w.heap.size (hw.alloc _) (cell_of_one (heap_alloc_new _ _)) (by omega)).mono ?_
  rintro e w' ⟨h1, h2, h3⟩
  exact ⟨h1, h2, ((Keep.refl K w).alloc _).trans h3⟩
theorem id_call {K : Nat → Prop} {w : World} {h : Nat} {l : List UInt8} (hw : Wr K w h l) (f : Nat → UInt8) (cs : Array Value) (b : Nat) (hb : b = w.heap.size) (hcs : cs = arr 32 (bv f)) (hl : l.length ≤ 1099511627776) :
    Calls Tryz.prog 45 #[.pointer (some ⟨h, 0, none⟩), .slice (some ⟨b, 0, none⟩) 1 1] (w.alloc (.cells cs 29)) fun e w' => e = .returned (.tuple #[]) ∧ Wr K w' h (l ++ idL f) ∧ Keep K w w' := by
  subst hb
  subst hcs
  refine (wid_any f w.heap.size 29 (hw.alloc _) (Blk.newAt _ (heap_alloc_new _ _) rfl) hl).mono ?_
  rintro e w' ⟨h1, h2, h3⟩
  exact ⟨h1, h2, ((Keep.refl K w).alloc _).trans h3⟩
end Go.Proofs.YtlbclfponongbaaGreatDoor
/- An object's frame. -/
namespace Go.Proofs.YtlbclfponongbaaGreatDoor
open Go.RowKit Classical
def lt (k : Int) : UInt8 := if k = 1 then 98 else if k = 2 then 116 else 99
def fb (k : Int) (l : List UInt8) : List UInt8 := lt k :: tx l
set_option maxHeartbeats 2000000 in
set_option maxRecDepth 100000 in
theorem frame_any (k : Int) (l : List UInt8) (w : World) :
    Calls Tryz.prog 5 #[.agg #[.int .i64 k, .string (bs l)]] w fun e w' => (objOk k l → e = .returned (.tuple #[.string (bs (fb k l)), .int .i64 0])) ∧ (¬ objOk k l → e = .returned (.tuple #[.string ⟨#[]⟩, .int .i64 1])) ∧ Below w.heap.size w w' := by
  have HR := Lib.hid (fun W => right_any k l W)
  have L0 : Hid (Below w.heap.size w (w.alloc (.cells #[.int .i64 k, .string (bs l)] 23))) := (Below.refl _ _).alloc (Nat.le_refl _) _
  by_cases ho : objOk k l
  · rw [decide_eq_true ho] at HR
    have hl := ho.1
    have hk : k = 1 ∨ k = 2 ∨ k = 3 := by rcases ho.2 with h | h | h; exact Or.inl h; exact Or.inr (Or.inl h.1); exact Or.inr (Or.inr h.1)
    have HO := Lib.hid ho
    have HL := Lib.hid hl
    clear ho hl
    rcases hk with rfl | rfl | rfl
    · go_enter Tryz.func5, Tryz.ntmps5
      go_wp2_with fail
      refine (HR.out _).mono ?_
      rintro e w2 ⟨rfl, L2⟩
      have L3 := Lib.hid (L0.out.trans (L2.mono L0.out.size))
      have c0 : w2.cell? ⟨w.heap.size, 0, none⟩ = some (.int .i64 1) := by rw [L2.cell (by simp)]; exact cell_of_row _ _ _ _ _ _ (heap_alloc_new _ _)
      have c1 : w2.cell? ⟨w.heap.size, 1, none⟩ = some (.string (bs l)) := by rw [L2.cell (by simp)]; exact cell_of_row _ _ _ _ _ _ (heap_alloc_new _ _)
      have LT : Hid (w.heap.size < w2.heap.size) := block_lt_of_cell c0
      clear L2 L0 HR
      go_upto_region 5 with fail
      have W0 : Hid (Wr (· < w2.heap.size) (w2.alloc (.cells #[.slice none 0 0] 61)) w2.heap.size []) := Wr.new fun k h => h
      have K0 : Hid (Keep (· < w2.heap.size) w2 (w2.alloc (.cells #[.slice none 0 0] 61))) := (Keep.refl _ w2).alloc _
      change Code.wp _ _ _ _ (w2.alloc (.cells #[.slice none 0 0] 61))
      have HS : Hid (w2.heap.size + 1 = (w2.alloc (.cells #[.slice none 0 0] 61)).heap.size) := by show _ = _; simp
      go_wp2_with fail
      rw [show (⟨#[98, 116, 99]⟩ : ByteArray).extract 0 1 = bs [98] from rfl]
      refine (raw_call W0.out [98] _ HS.out (by decide)).mono ?_
      rintro e w3 ⟨rfl, g1, k1⟩
      have G1 := Lib.hid g1
      have K1 := Lib.hid (K0.out.trans k1)
      have c3 : w3.cell? ⟨w.heap.size, 1, none⟩ = some (.string (bs l)) := K1.out.cell LT.out c1
      clear g1 k1 W0 K0 HS c1 c0
      go_wp2_with fail
      refine (text_call G1.out l _ rfl (by have := HL.out; rw [List.nil_append, List.length_singleton]; omega)).mono ?_
      rintro e w4 ⟨rfl, g1, k1⟩
      have G2 := Lib.hid g1
      have K2 := Lib.hid (K1.out.trans k1)
      clear g1 k1 G1 K1 c3
      go_wp2_with fail
      refine (wstr_any G2.out).mono ?_
      rintro e w5 ⟨rfl, rfl⟩
      go_wp2
      go_ret2
      exact ⟨fun _ => rfl, fun h => absurd HO.out h, L3.out.trans ((K2.out.below (Nat.le_refl _)).mono L3.out.size)⟩
    · go_enter Tryz.func5, Tryz.ntmps5
      go_wp2_with fail
      refine (HR.out _).mono ?_
      rintro e w2 ⟨rfl, L2⟩
      have L3 := Lib.hid (L0.out.trans (L2.mono L0.out.size))
      have c0 : w2.cell? ⟨w.heap.size, 0, none⟩ = some (.int .i64 2) := by rw [L2.cell (by simp)]; exact cell_of_row _ _ _ _ _ _ (heap_alloc_new _ _)
      have c1 : w2.cell? ⟨w.heap.size, 1, none⟩ = some (.string (bs l)) := by rw [L2.cell (by simp)]; exact cell_of_row _ _ _ _ _ _ (heap_alloc_new _ _)
      have LT : Hid (w.heap.size < w2.heap.size) := block_lt_of_cell c0
      clear L2 L0 HR
      go_upto_region 5 with fail
      have W0 : Hid (Wr (· < w2.heap.size) (w2.alloc (.cells #[.slice none 0 0] 61)) w2.heap.size []) := Wr.new fun k h => h
      have K0 : Hid (Keep (· < w2.heap.size) w2 (w2.alloc (.cells #[.slice none 0 0] 61))) := (Keep.refl _ w2).alloc _
      change Code.wp _ _ _ _ (w2.alloc (.cells #[.slice none 0 0] 61))
      have HS : Hid (w2.heap.size + 1 = (w2.alloc (.cells #[.slice none 0 0] 61)).heap.size) := by show _ = _; simp
      go_wp2_with fail
      rw [show (⟨#[98, 116, 99]⟩ : ByteArray).extract 1 2 = bs [116] from rfl]
      refine (raw_call W0.out [116] _ HS.out (by decide)).mono ?_
      rintro e w3 ⟨rfl, g1, k1⟩
      have G1 := Lib.hid g1
      have K1 := Lib.hid (K0.out.trans k1)
      have c3 : w3.cell? ⟨w.heap.size, 1, none⟩ = some (.string (bs l)) := K1.out.cell LT.out c1
      clear g1 k1 W0 K0 HS c1 c0
      go_wp2_with fail
      refine (text_call G1.out l _ rfl (by have := HL.out; rw [List.nil_append, List.length_singleton]; omega)).mono ?_
      rintro e w4 ⟨rfl, g1, k1⟩
      have G2 := Lib.hid g1
      have K2 := Lib.hid (K1.out.trans k1)
      clear g1 k1 G1 K1 c3
      go_wp2_with fail
      refine (wstr_any G2.out).mono ?_
      rintro e w5 ⟨rfl, rfl⟩
      go_wp2
      go_ret2
      exact ⟨fun _ => rfl, fun h => absurd HO.out h, L3.out.trans ((K2.out.below (Nat.le_refl _)).mono L3.out.size)⟩
    · go_enter Tryz.func5, Tryz.ntmps5
      go_wp2_with fail
      refine (HR.out _).mono ?_
      rintro e w2 ⟨rfl, L2⟩
      have L3 := Lib.hid (L0.out.trans (L2.mono L0.out.size))
      have c0 : w2.cell? ⟨w.heap.size, 0, none⟩ = some (.int .i64 3) := by rw [L2.cell (by simp)]; exact cell_of_row _ _ _ _ _ _ (heap_alloc_new _ _)
      have c1 : w2.cell? ⟨w.heap.size, 1, none⟩ = some (.string (bs l)) := by rw [L2.cell (by simp)]; exact cell_of_row _ _ _ _ _ _ (heap_alloc_new _ _)
      have LT : Hid (w.heap.size < w2.heap.size) := block_lt_of_cell c0
      clear L2 L0 HR
      go_upto_region 5 with fail
      have W0 : Hid (Wr (· < w2.heap.size) (w2.alloc (.cells #[.slice none 0 0] 61)) w2.heap.size []) := Wr.new fun k h => h
      have K0 : Hid (Keep (· < w2.heap.size) w2 (w2.alloc (.cells #[.slice none 0 0] 61))) := (Keep.refl _ w2).alloc _
      change Code.wp _ _ _ _ (w2.alloc (.cells #[.slice none 0 0] 61))
      have HS : Hid (w2.heap.size + 1 = (w2.alloc (.cells #[.slice none 0 0] 61)).heap.size) := by show _ = _; simp
      go_wp2_with fail
      rw [show (⟨#[98, 116, 99]⟩ : ByteArray).extract 2 3 = bs [99] from rfl]
      refine (raw_call W0.out [99] _ HS.out (by decide)).mono ?_
      rintro e w3 ⟨rfl, g1, k1⟩
      have G1 := Lib.hid g1
      have K1 := Lib.hid (K0.out.trans k1)
      have c3 : w3.cell? ⟨w.heap.size, 1, none⟩ = some (.string (bs l)) := K1.out.cell LT.out c1
      clear g1 k1 W0 K0 HS c1 c0
      go_wp2_with fail
      refine (text_call G1.out l _ rfl (by have := HL.out; rw [List.nil_append, List.length_singleton]; omega)).mono ?_
      rintro e w4 ⟨rfl, g1, k1⟩
      have G2 := Lib.hid g1
      have K2 := Lib.hid (K1.out.trans k1)
      clear g1 k1 G1 K1 c3
      go_wp2_with fail
      refine (wstr_any G2.out).mono ?_
      rintro e w5 ⟨rfl, rfl⟩
      go_wp2
      go_ret2
      exact ⟨fun _ => rfl, fun h => absurd HO.out h, L3.out.trans ((K2.out.below (Nat.le_refl _)).mono L3.out.size)⟩
  · rw [decide_eq_false ho] at HR
    have NO := Lib.hid ho
    clear ho
    go_enter Tryz.func5, Tryz.ntmps5
    go_wp2_with fail
    refine (HR.out _).mono ?_
    rintro e w2 ⟨rfl, L2⟩
    have L3 := Lib.hid (L0.out.trans (L2.mono L0.out.size))
    clear L2 L0 HR
    go_wp2
    go_ret2
    exact ⟨fun h => absurd h NO.out, fun _ => rfl, L3.out⟩
end Go.Proofs.YtlbclfponongbaaGreatDoor
