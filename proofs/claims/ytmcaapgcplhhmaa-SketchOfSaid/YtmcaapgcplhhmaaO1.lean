import Derived.Test.YtmcaapgcplhhmaaW16
/- SketchOf's function. -/
namespace Go.Proofs.Ytmcaapgcplhhmaa
open Go.RowKit
set_option maxHeartbeats 2000000 in
theorem sketchof_any (ss : Nat → ByteArray) (v : Value) (len : Nat) (w : World) (hl : len ≤ 9223372036854775807) (hS : Strs w v ss len) :
    Calls Try.prog 3 #[v] w fun e w' => e = .returned (.bool true) ∧ Below w.heap.size w w' := by
  have HS : Hid (∀ W, Below w.heap.size w W → Strs W v ss len) := fun W L => hS.below L
  have HGr := fun W (L : Below w.heap.size w W) => great_any ss v len W hl (HS.out W L)
  clear hS
  cases hg : isGreat ss len
  · rw [hg] at HGr
    obtain ⟨h30, h500⟩ := great_false hg
    have hn := pre_len_le ss 500 len h500
    have CO := fun W (L : Below w.heap.size w W) => of_any ss v len W (by omega) (by omega) (HS.out W L)
    have CJ := fun W (L : Below w.heap.size w W) => join_any ss v len W (by omega) (by omega) (HS.out W L)
    have CR := fun W => rof_any (cat ss len) W (by rw [cat_size]; omega)
    have CS := fun W => same_any (sk (pre ss len)) (Ok.sk (by omega)) W
    rw [bl_cat] at CR
    have HG := Lib.hid HGr
    have HCO := Lib.hid CO
    have HCJ := Lib.hid CJ
    have HCR := Lib.hid CR
    have HCS := Lib.hid CS
    clear HGr CO CJ CR CS hg hn h500 h30 hl HS
    generalize cat ss len = t at *
    generalize sk (pre ss len) = g at *
    go_enter Try.func3, Try.ntmps3
    go_wp2_with fail
    refine (alive_any _).mono ?_
    rintro e w1 ⟨rfl, L1⟩
    go_wp2_with fail
    refine (HG.out _ L1).mono ?_
    rintro e w2 ⟨rfl, rfl⟩
    go_wp2_with fail
    refine (alive_any _).mono ?_
    rintro e w2 ⟨rfl, B2⟩
    have L2 := L1.trans (B2.mono L1.size)
    go_wp2_with fail
    refine (HCO.out _ L2).mono ?_
    rintro e w3 ⟨rfl, B3⟩
    have L3 := L2.trans (B3.mono L2.size)
    go_wp2_with fail
    refine (HCJ.out _ L3).mono ?_
    rintro e w4 ⟨rfl, rfl⟩
    go_wp2_with fail
    refine (HCR.out _).mono ?_
    rintro e w5 ⟨rfl, B5⟩
    have L5 := L3.trans (B5.mono L3.size)
    go_wp2_with fail
    refine (HCS.out _).mono ?_
    rintro e w6 ⟨rfl, B6⟩
    have L6 := L5.trans (B6.mono L5.size)
    go_wp2
    go_ret
    exact ⟨rfl, L6⟩
  · rw [hg] at HGr
    have HG := Lib.hid HGr
    clear HGr hg hl HS
    go_enter Try.func3, Try.ntmps3
    go_wp2_with fail
    refine (alive_any _).mono ?_
    rintro e w1 ⟨rfl, L1⟩
    go_wp2_with fail
    refine (HG.out _ L1).mono ?_
    rintro e w2 ⟨rfl, rfl⟩
    go_wp2_with fail
    refine (alive_any _).mono ?_
    rintro e w2 ⟨rfl, B2⟩
    go_wp2
    go_ret
    exact ⟨rfl, L1.trans (B2.mono L1.size)⟩
end Go.Proofs.Ytmcaapgcplhhmaa
