import Derived.Test.YthjeinedplbnmaaDoorJ1
namespace Go.Proofs.YthjeinedplbnmaaDoor
open Go.RowKit
theorem sumF_str (n : Nat) (f : Nat → UInt8) : sumF (sAt (str n f)) (str n f).size = sumF f n := by
  rw [str_size]
  exact sumF_congr fun i hi => str_at n f i hi
attribute [local go_sem] U_neg
set_option maxHeartbeats 1000000 in
set_option maxRecDepth 100000 in
theorem crcsums_any (ss : Nat → ByteArray) (v : Value) (len : Nat) (x : W32) (w : World) (hl : len ≤ 9223372036854775807) (hS : Strs w v ss len) (hk : ∀ i, i < 16 → w.cell? ⟨0, i, none⟩ = some (wv hb i)) :
    Calls Tryd.prog 3 #[v, .int .u32 (U x)] w fun e w' => e = .returned (.bool true) ∧ Below w.heap.size w w' := by
  have h0 : 0 < w.heap.size := block_lt_of_cell (hk 0 (by omega))
  have HKW : Hid (∀ w', Below w.heap.size w w' → ∀ i, i < 16 → w'.cell? ⟨0, i, none⟩ = some (wv hb i)) := fun w' L i hi => by rw [L.cell h0]; exact hk i hi
  have HS : Hid (∀ w', Below w.heap.size w w' → Strs w' v ss len) := fun w' L => hS.below L
  have HG := Lib.hid hl
  clear hk hS hl
  cases hg : isGreat ss len
  · have h40 : len ≤ 40 := by
      by_cases c : 40 < len
      · unfold isGreat at hg
        rw [decide_eq_true c] at hg
        cases hg
      · omega
    have hlo : longs ss len = false := by
      unfold isGreat at hg
      rw [Bool.or_eq_false_iff] at hg
      exact hg.2
    have hn : offs ss len ≤ 1073741824 := by
      have := offs_le ss len (longs_false hlo)
      omega
    clear hlo
    obtain ⟨t, q, z, CJ, C1, C2, C3, CF, ts⟩ : ∃ (t : ByteArray) (q z : W32),
        Hid (∀ W, Below w.heap.size w W → Calls Tryd.prog 10 #[v] W fun e w' => e = .returned (.string t) ∧ W = w') ∧
        Hid (∀ W, Below w.heap.size w W → Calls Tryd.prog 12 #[v] W fun e w' => e = .returned (.int .u32 (U q)) ∧ W = w') ∧
        Hid (∀ W, Calls Tryd.prog 13 #[.string t] W fun e w' => e = .returned (.int .u32 (U q)) ∧ W = w') ∧
        Hid (∀ W, Below w.heap.size w W → Calls Tryd.prog 14 #[.int .u32 (U x), .string t] W fun e w' => e = .returned (.int .u32 (U (~~~z))) ∧ W = w') ∧
        Hid (z = feeds (~~~x) (sAt t) t.size) ∧ t.size ≤ 1073741824 := by
      refine ⟨str (offs ss len) (joinF ss len), sumF (joinF ss len) (offs ss len), feeds (~~~x) (sAt (str (offs ss len) (joinF ss len))) (str (offs ss len) (joinF ss len)).size, fun W L => ?_, fun W L => ?_, fun W => ?_, fun W L => ?_, Lib.hid rfl, ?_⟩
      · exact join_any ss v len W (by omega) hn (HS.out _ L)
      · exact csum_any ss v len W (by omega) hn (HS.out _ L) (HKW.out _ L)
      · have h := refsum_any (str (offs ss len) (joinF ss len)) W (by rw [str_size]; exact hn)
        rw [sumF_str] at h
        exact h
      · exact add_any x _ W (by rw [str_size]; exact hn) (HKW.out _ L)
      · rw [str_size]; exact hn
    clear hn h40
    have HGr := great_any ss v len
    rw [hg] at HGr
    have CG := Lib.hid HGr
    clear HGr hg
    go_enter Tryd.func3, Tryd.ntmps3
    go_wp2_with fail
    refine (alive_any _ (HKW.out _ (Below.refl _ _))).mono ?_
    rintro e w1 ⟨rfl, L1⟩
    go_wp2_with fail
    refine (CG.out w1 HG.out (HS.out _ L1)).mono ?_
    rintro e w' ⟨rfl, rfl⟩
    go_wp2_with fail
    refine (CJ.out _ L1).mono ?_
    rintro e w' ⟨rfl, rfl⟩
    go_wp2_with fail
    go_loopw [6, 7] (fun n i wr => ∃ k : Nat, k ≤ t.size ∧ i = .int .i64 k ∧ n = .int .u32 (U (feeds (~~~x) (sAt t) k)) ∧ Below w.heap.size w wr) (fun _ i _ => t.size - (intOf i).toNat)
    case atStart => exact ⟨0, by omega, rfl, congrArg (Value.int .u32) (U_m _), L1⟩
    case round =>
      obtain ⟨k, hk, rfl, rfl, Lr⟩ := hrel
      by_cases hlt : k < t.size
      · have i1 := idx_str t k hlt
        have yk : (k : Int) < (t.size : Int) := by omega
        go_wp2_with fail
        refine (Feed_any _ _ _).mono ?_
        rintro e w' ⟨rfl, rfl⟩
        go_wp2
        go_roundw
        case rel => exact ⟨k + 1, by omega, by go_num, rfl, Lr⟩
        case measure => simp [intOf]; omega
      · have e : k = t.size := by omega
        subst e
        rw [← CF.out]
        clear hlt hk
        go_wp2_with fail
        refine (alive_any _ (HKW.out _ Lr)).mono ?_
        rintro e w2 ⟨rfl, hb2⟩
        have L2 := Lr.trans (hb2.mono Lr.size)
        clear hb2
        go_wp2_with fail
        refine (C1.out _ L2).mono ?_
        rintro e w' ⟨rfl, rfl⟩
        go_wp2_with fail
        refine (C2.out _).mono ?_
        rintro e w' ⟨rfl, rfl⟩
        go_wp2_with fail
        refine (C3.out _ L2).mono ?_
        rintro e w' ⟨rfl, rfl⟩
        go_wp2_with fail
        go_ret
        refine ⟨?_, L2⟩
        show Ending.returned (.bool (U (~~~z) == U (~~~z) % 4294967296)) = _
        rw [U_m, beq_self_eq_true]
  · have HGr := great_any ss v len
    rw [hg] at HGr
    have CG := Lib.hid HGr
    clear HGr hg
    go_enter Tryd.func3, Tryd.ntmps3
    go_wp2_with fail
    refine (alive_any _ (HKW.out _ (Below.refl _ _))).mono ?_
    rintro e w1 ⟨rfl, L1⟩
    go_wp2_with fail
    refine (CG.out w1 HG.out (HS.out _ L1)).mono ?_
    rintro e w' ⟨rfl, rfl⟩
    go_wp2_with fail
    refine (alive_any _ (HKW.out _ L1)).mono ?_
    rintro e w2 ⟨rfl, hb2⟩
    have L2 := L1.trans (hb2.mono L1.size)
    clear hb2
    go_wp2_with fail
    go_ret
    exact ⟨rfl, L2⟩
end Go.Proofs.YthjeinedplbnmaaDoor
