import Derived.Test.YtchdhpnklnfplaaV8
import Derived.Test.YtchdhpnklnfplaaPg
/- The writer's calls as the laws make them. -/
namespace Go.Proofs.Ytchdhpnklnfplaa
open Go.RowKit
theorem num_call {K : Nat → Prop} {w : World} {h : Nat} {l : List UInt8} (hw : Wr K w h l) (n : Int) (b : Nat) (hb : b = w.heap.size) (hl : l.length ≤ 1099511627776) :
    Calls Try.prog 9 #[.pointer (some ⟨h, 0, none⟩), .slice (some ⟨b, 0, none⟩) 1 1] (w.alloc (.cells #[.int .i64 n] 3)) fun e w' => e = .returned (.tuple #[]) ∧ Wr K w' h (l ++ dg (clamp n)) ∧ Keep K w w' := by
  subst hb
  refine (wnum1_any n w.heap.size (hw.alloc _) (cell_of_one (heap_alloc_new _ _)) (by have := hw.lt; omega) hl).mono ?_
  rintro e w' ⟨h1, h2, h3⟩
  exact ⟨h1, h2, ((Keep.refl K w).alloc _).trans h3⟩
theorem text_call {K : Nat → Prop} {w : World} {h : Nat} {l : List UInt8} (hw : Wr K w h l) (s : List UInt8) (b : Nat) (hb : b = w.heap.size) (hl : l.length + s.length ≤ 1099511627770) :
    Calls Try.prog 11 #[.pointer (some ⟨h, 0, none⟩), .slice (some ⟨b, 0, none⟩) 1 1] (w.alloc (.cells #[.string (bs s)] 9)) fun e w' => e = .returned (.tuple #[]) ∧ Wr K w' h (l ++ tx s) ∧ Keep K w w' := by
  subst hb
  refine (wtext_any s w.heap.size (hw.alloc _) (cell_of_one (heap_alloc_new _ _)) hl).mono ?_
  rintro e w' ⟨h1, h2, h3⟩
  exact ⟨h1, h2, ((Keep.refl K w).alloc _).trans h3⟩
theorem raw_call {K : Nat → Prop} {w : World} {h : Nat} {l : List UInt8} (hw : Wr K w h l) (s : List UInt8) (b : Nat) (hb : b = w.heap.size) (hl : l.length + s.length ≤ 1099511627770) :
    Calls Try.prog 15 #[.pointer (some ⟨h, 0, none⟩), .slice (some ⟨b, 0, none⟩) 1 1] (w.alloc (.cells #[.string (bs s)] 9)) fun e w' => e = .returned (.tuple #[]) ∧ Wr K w' h (l ++ s) ∧ Keep K w w' := by
  subst hb
  refine (wraw_any s w.heap.size (hw.alloc _) (cell_of_one (heap_alloc_new _ _)) (by omega)).mono ?_
  rintro e w' ⟨h1, h2, h3⟩
  exact ⟨h1, h2, ((Keep.refl K w).alloc _).trans h3⟩
theorem id_call {K : Nat → Prop} {w : World} {h : Nat} {l : List UInt8} (hw : Wr K w h l) (f : Nat → UInt8) (cs : Array Value) (b : Nat) (hb : b = w.heap.size) (hcs : cs = arr 32 (bv f)) (hl : l.length ≤ 1099511627776) :
    Calls Try.prog 13 #[.pointer (some ⟨h, 0, none⟩), .slice (some ⟨b, 0, none⟩) 1 1] (w.alloc (.cells cs 30)) fun e w' => e = .returned (.tuple #[]) ∧ Wr K w' h (l ++ idL f) ∧ Keep K w w' := by
  subst hb
  subst hcs
  refine (wid_any f w.heap.size 30 (hw.alloc _) (Blk.newAt _ (heap_alloc_new _ _) rfl) hl).mono ?_
  rintro e w' ⟨h1, h2, h3⟩
  exact ⟨h1, h2, ((Keep.refl K w).alloc _).trans h3⟩
/- what every right program answers -/
def seven (i : Nat) : UInt8 := if i = 0 then 7 else 0
def aliveL : List UInt8 := [172, 2, 2, 97, 98, 7, 0, 0, 0, 0, 0, 0, 0, 0, 0, 0, 0, 0, 0, 0, 0, 0, 0, 0, 0, 0, 0, 0, 0, 0, 0, 0, 0, 0, 0, 0, 0]
theorem alive_written : ([] ++ dg (clamp 300) ++ tx [97, 98] ++ idL seven) = aliveL := by
  have e1 : clamp 300 = 300 := rfl
  have e2 : clamp (([97, 98] : List UInt8).length : Int) = 2 := rfl
  unfold tx
  rw [e1, e2, dg_high (by omega), dg_low (n := 300 / 128) (by omega)]
  decide
theorem alive_num : rNum 300 aliveL 0 0 = (300, 2, 0) := by decide +kernel
theorem alive_text : rText 2 aliveL 2 0 = ([97, 98], 5, 0) := by decide +kernel
theorem alive_id : rRaw 32 aliveL 5 0 = (idL seven, 37, 0) := by decide +kernel
theorem seven_lit : (#[.int .u8 7, .int .u8 0, .int .u8 0, .int .u8 0, .int .u8 0, .int .u8 0, .int .u8 0, .int .u8 0, .int .u8 0, .int .u8 0, .int .u8 0, .int .u8 0, .int .u8 0, .int .u8 0, .int .u8 0, .int .u8 0, .int .u8 0, .int .u8 0, .int .u8 0, .int .u8 0, .int .u8 0, .int .u8 0, .int .u8 0, .int .u8 0, .int .u8 0, .int .u8 0, .int .u8 0, .int .u8 0, .int .u8 0, .int .u8 0, .int .u8 0, .int .u8 0] : Array Value) = arr 32 (bv seven) := rfl
theorem seven_read : ∀ i, i < 32 → idOf (idL seven) i = seven i := by decide
theorem alive_get : ∀ h, (bs aliveL)[0]'h = 172 := fun h => rfl
set_option maxHeartbeats 1000000 in
set_option maxRecDepth 100000 in
theorem alive_any (w : World) : Calls Try.prog 7 #[] w fun e w' => e = .returned (.bool true) ∧ Below w.heap.size w w' := by
  have W0 : Hid (Wr (· < w.heap.size) (w.alloc (.cells #[.slice none 0 0] 27)) w.heap.size []) := Wr.new fun k h => h
  have K0 : Hid (Keep (· < w.heap.size) w (w.alloc (.cells #[.slice none 0 0] 27))) := (Keep.refl _ w).alloc _
  go_enter Try.func7, Try.ntmps7
  go_wp2_with fail
  refine (num_call W0.out 300 _ (by simp) (by decide)).mono ?_
  rintro e w1 ⟨rfl, g1, k1⟩
  have G1 := Lib.hid g1
  have K1 := Lib.hid (K0.out.trans k1)
  clear g1 k1 W0 K0
  go_wp2_with fail
  refine (text_call G1.out [97, 98] _ rfl (by decide +kernel)).mono ?_
  rintro e w2 ⟨rfl, g1, k1⟩
  have G2 := Lib.hid g1
  have K2 := Lib.hid (K1.out.trans k1)
  clear g1 k1 G1 K1
  go_wp2_with fail
  refine (id_call G2.out seven _ _ rfl seven_lit (by decide +kernel)).mono ?_
  rintro e w3 ⟨rfl, g1, k1⟩
  have G3 := Lib.hid g1
  have K3 := Lib.hid (K2.out.trans k1)
  clear g1 k1 G2 K2
  go_wp2_with fail
  have e1 := alive_written
  refine (wstr_any G3.out).mono ?_
  rintro e w4 ⟨rfl, rfl⟩
  rw [e1]
  clear e1 G3
  have hz : (bs aliveL).size = 37 := by rw [bs_size]; rfl
  have h0 := alive_get
  have HN : Hid (∀ W, Calls Try.prog 17 #[.string (bs aliveL)] W fun e w' => ∃ r, e = .returned (.pointer (some ⟨r, 0, none⟩)) ∧ W.heap.size ≤ r ∧ Rd w' r aliveL 0 0 ∧ Below W.heap.size W w') := fun W => new_any aliveL W (by decide)
  generalize bs aliveL = sb at hz h0 HN ⊢
  have h1 := h0 (by omega)
  clear h0
  go_wp2_with fail
  refine (HN.out _).mono ?_
  rintro e w5 ⟨r, rfl, hr, hR, hB⟩
  have hrB : w.heap.size ≤ r := Nat.le_trans K3.out.size hr
  have K5 := Lib.hid (K3.out.trans (Keep.all hB))
  have A1 := rnum_any 300 hR (by decide) (by decide)
  have A2 : Hid (∀ W, Rd W r aliveL 2 0 → Calls Try.prog 19 #[.pointer (some ⟨r, 0, none⟩), .int .i64 2] W fun v w' => v = .returned (.string ⟨#[97, 98]⟩) ∧ Rd w' r aliveL 5 0 ∧ Keep (fun k => k ≠ r) W w') := fun W hW => by
    have := rtext_any 2 hW (by decide) (by decide)
    rw [alive_text] at this
    exact this
  have A3 : Hid (∀ W, Rd W r aliveL 5 0 → Calls Try.prog 20 #[.pointer (some ⟨r, 0, none⟩)] W fun v w' => v = .returned (.agg (arr 32 (bv (idOf (idL seven))))) ∧ Rd w' r aliveL 37 0 ∧ Keep (fun k => k ≠ r) W w') := fun W hW => by
    have := rid_any hW (by decide) (by decide)
    rw [alive_id] at this
    exact this
  have A4 : Hid (∀ W, Rd W r aliveL 37 0 → Calls Try.prog 22 #[.pointer (some ⟨r, 0, none⟩)] W fun v w' => v = .returned (.int .i64 0) ∧ Below W.heap.size W w') := fun W hW => by
    have := end_any hW
    rw [show endOf aliveL.length 37 0 = 0 from rfl] at this
    exact this
  have q : ∀ W : World, (binOp .eql 30 (.agg (arr 32 (bv (idOf (idL seven))))) (.agg #[.int .u8 7, .int .u8 0, .int .u8 0, .int .u8 0, .int .u8 0, .int .u8 0, .int .u8 0, .int .u8 0, .int .u8 0, .int .u8 0, .int .u8 0, .int .u8 0, .int .u8 0, .int .u8 0, .int .u8 0, .int .u8 0, .int .u8 0, .int .u8 0, .int .u8 0, .int .u8 0, .int .u8 0, .int .u8 0, .int .u8 0, .int .u8 0, .int .u8 0, .int .u8 0, .int .u8 0, .int .u8 0, .int .u8 0, .int .u8 0, .int .u8 0, .int .u8 0])).run Try.prog W = .ok (.bool true) W := fun W => by
    rw [seven_lit]; exact eq_arr _ _ seven_read W
  rw [alive_num] at A1
  clear hR hB HN hr
  generalize arr 32 (bv (idOf (idL seven))) = ia at A3 q
  dsimp only at A1
  go_wp2_with fail
  refine A1.mono ?_
  rintro e w6 ⟨rfl, g, k⟩
  have G6 := Lib.hid g
  have K6 : Hid (Keep (· < w.heap.size) w w6) := K5.out.trans (k.mono fun k hk _ => by omega)
  clear g k K5 A1
  go_wp2_with fail
  refine (A2.out _ G6.out).mono ?_
  rintro e w7 ⟨rfl, g, k⟩
  have G7 := Lib.hid g
  have K7 : Hid (Keep (· < w.heap.size) w w7) := K6.out.trans (k.mono fun k hk _ => by omega)
  clear g k K6 G6 A2
  go_wp2_with fail
  refine (A3.out _ G7.out).mono ?_
  rintro e w8 ⟨rfl, g, k⟩
  have G8 := Lib.hid g
  have K8 : Hid (Keep (· < w.heap.size) w w8) := K7.out.trans (k.mono fun k hk _ => by omega)
  clear g k K7 G7 A3
  go_wp2_with fail
  refine (A4.out _ G8.out).mono ?_
  rintro e w9 ⟨rfl, hB⟩
  have L := Lib.hid ((K8.out.trans (Keep.all hB)).below (Nat.le_refl _))
  clear hB K8 G8 A4
  go_wp2
  go_ret
  exact ⟨rfl, L.out⟩
end Go.Proofs.Ytchdhpnklnfplaa
