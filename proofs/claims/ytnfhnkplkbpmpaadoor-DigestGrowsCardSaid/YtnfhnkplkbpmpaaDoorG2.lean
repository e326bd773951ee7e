import Derived.Test.YtnfhnkplkbpmpaaDoorG1
import Derived.Deep.RegionHeld3
namespace Go.Proofs.YtnfhnkplkbpmpaaDoor
open Go.RowKit
def other : ByteArray := ⟨#[111, 116, 104, 101, 114]⟩
theorem write_one (t : ByteArray) (d : Nat → UInt8) (st : Nat → W32) (blk : Nat → UInt8) (n hb b : Nat) (w : World) (hn : n + t.size ≤ 1073741824) (hB : Blk w hb 35 73 (hv st blk n)) (hI : Inv d st blk n)
    (hh : hb ≠ 0) (hbb : b ≠ hb) (hk : ∀ i, i < 64 → w.cell? ⟨0, i, none⟩ = some (wv kk i)) (hc : w.cell? ⟨b, 0, none⟩ = some (.string t)) :
    Calls Tryd.prog 13 #[.pointer (some ⟨hb, 0, none⟩), .slice (some ⟨b, 0, none⟩) 1 1] w fun e w' => e = .returned (.tuple #[]) ∧ ∃ st' blk', Blk w' hb 35 73 (hv st' blk' (n + t.size)) ∧ Inv (behind d n t) st' blk' (n + t.size) ∧ w.grownBy w' (some hb) := by
  have e1 : offs (fun _ => t) 1 = t.size := Nat.zero_add _
  have h := write_some (fun _ => t) b 0 1 1 (behind d n t) n hb w (by omega) (by omega) (by rw [e1]; exact hn)
    ⟨st, blk, hB, hI.congr (fun i hi => by unfold behind; rw [if_pos hi]), grown_refl _ _⟩ (parts_one d n t) hh hbb hk
    (fun i hi => by
      obtain rfl : i = 0 := by omega
      exact hc)
  rw [e1] at h
  exact h
theorem grow_pack (J J2 : Nat → UInt8) (st st3 : Nat → W32) (blk blk3 : Nat → UInt8) (n n2 g c : Nat) (w : World) (hn : n ≤ 1073741824) (hn2 : n2 ≤ 1073741824)
    (hB : Blk w g 35 73 (hv st blk n)) (hI : Inv J st blk n) (hC : Blk w c 35 73 (hv st3 blk3 n2)) (hI2 : Inv J2 st3 blk3 n2) (hk : ∀ i, i < 64 → w.cell? ⟨0, i, none⟩ = some (wv kk i)) :
    ∃ D1 D2 : Nat → UInt8, (∀ w, (binOp .neq 26 (.agg (arr 32 (bv D1))) (.agg (arr 32 (bv D1)))).run Tryd.prog w = .ok (.bool false) w) ∧ (∀ w, (binOp .neq 26 (.agg (arr 32 (bv D2))) (.agg (arr 32 (bv D2)))).run Tryd.prog w = .ok (.bool false) w) ∧
      Hid (∀ W, Below w.heap.size w W → Calls Tryd.prog 14 #[.pointer (some ⟨g, 0, none⟩)] W fun e w' => e = .returned (.agg (arr 32 (bv D1))) ∧ Below W.heap.size W w') ∧
      Hid (∀ W, Calls Tryd.prog 11 #[.string (str n J)] W fun e w' => e = .returned (.agg (arr 32 (bv D1))) ∧ Below W.heap.size W w') ∧
      Hid (∀ W, Below w.heap.size w W → Calls Tryd.prog 15 #[.pointer (some ⟨g, 0, none⟩)] W fun e w' => e = .returned (.int .u64 (n : Int)) ∧ W = w') ∧
      Hid (∀ W, Below w.heap.size w W → Calls Tryd.prog 14 #[.pointer (some ⟨c, 0, none⟩)] W fun e w' => e = .returned (.agg (arr 32 (bv D2))) ∧ Below W.heap.size W w') ∧
      Hid (∀ W, Calls Tryd.prog 11 #[.string (str n2 J2)] W fun e w' => e = .returned (.agg (arr 32 (bv D2))) ∧ Below W.heap.size W w') := by
  have h0 : 0 < w.heap.size := block_lt_of_cell (hk 0 (by omega))
  exact ⟨dig J n, dig J2 n2, neq_arr _, neq_arr _,
    fun W L => hsum_any J st blk n g W hn (hB.below L hB.lt) hI (fun i hi => by rw [L.cell h0]; exact hk i hi),
    fun W => refsum_str n J W hn,
    fun W L => hlen_any st blk n g W (hB.below L hB.lt),
    fun W L => hsum_any J2 st3 blk3 n2 c W hn2 (hC.below L hC.lt) hI2 (fun i hi => by rw [L.cell h0]; exact hk i hi),
    fun W => refsum_str n2 J2 W hn2⟩
theorem end_pack (J : Nat → UInt8) (st : Nat → W32) (blk : Nat → UInt8) (n g : Nat) (w : World) (hn : n ≤ 1073741824)
    (hB : Blk w g 35 73 (hv st blk n)) (hI : Inv J st blk n) (hk : ∀ i, i < 64 → w.cell? ⟨0, i, none⟩ = some (wv kk i)) :
    ∃ D1 D0 : Nat → UInt8, (∀ w, (binOp .eql 26 (.agg (arr 32 (bv D1))) (.agg (arr 32 (bv D1)))).run Tryd.prog w = .ok (.bool true) w) ∧ (∀ w, (binOp .eql 26 (.agg (arr 32 (bv D0))) (.agg (arr 32 (bv D0)))).run Tryd.prog w = .ok (.bool true) w) ∧
      Hid (∀ W, Below w.heap.size w W → Calls Tryd.prog 14 #[.pointer (some ⟨g, 0, none⟩)] W fun e w' => e = .returned (.agg (arr 32 (bv D1))) ∧ Below W.heap.size W w') ∧
      Hid (∀ W, Calls Tryd.prog 11 #[.string (str n J)] W fun e w' => e = .returned (.agg (arr 32 (bv D1))) ∧ Below W.heap.size W w') ∧
      Hid (∀ W, Below w.heap.size w W → Calls Tryd.prog 14 #[.pointer none] W fun e w' => e = .returned (.agg (arr 32 (bv D0))) ∧ Below W.heap.size W w') ∧
      Hid (∀ W, Calls Tryd.prog 11 #[.string ⟨#[]⟩] W fun e w' => e = .returned (.agg (arr 32 (bv D0))) ∧ Below W.heap.size W w') := by
  have h0 : 0 < w.heap.size := block_lt_of_cell (hk 0 (by omega))
  exact ⟨dig J n, dig J 0, eq_arr _ _ (fun _ _ => rfl), eq_arr _ _ (fun _ _ => rfl),
    fun W L => hsum_any J st blk n g W hn (hB.below L hB.lt) hI (fun i hi => by rw [L.cell h0]; exact hk i hi),
    fun W => refsum_str n J W hn,
    fun W L => hsum_nil J W (fun i hi => by rw [L.cell h0]; exact hk i hi),
    fun W => refsum_str 0 J W (by omega)⟩
set_option maxHeartbeats 2000000 in
set_option maxRecDepth 100000 in
theorem grows_any (ss : Nat → ByteArray) (v : Value) (len : Nat) (w : World) (hl : len ≤ 9223372036854775807) (hS : Strs w v ss len) (hk : ∀ i, i < 64 → w.cell? ⟨0, i, none⟩ = some (wv kk i)) :
    Calls Tryd.prog 4 #[v] w fun e w' => e = .returned (.bool true) ∧ Below w.heap.size w w' := by
  have h0 : 0 < w.heap.size := block_lt_of_cell (hk 0 (by omega))
  have HKW : Hid (∀ w', Below w.heap.size w w' → ∀ i, i < 64 → w'.cell? ⟨0, i, none⟩ = some (wv kk i)) := fun w' L i hi => by rw [L.cell h0]; exact hk i hi
  have HS : Hid (∀ w', Below w.heap.size w w' → Strs w' v ss len) := fun w' L => hS.below L
  have HG := Lib.hid hl
  clear hk hS hl
  go_enter Tryd.func4, Tryd.ntmps4
  go_wp2_with fail
  refine (alive_any _ (HKW.out _ (Below.refl _ _))).mono ?_
  rintro e w1 ⟨rfl, L1⟩
  go_wp2_with fail
  refine (great_any ss v len w1 HG.out (HS.out _ L1)).mono ?_
  rintro e w' ⟨rfl, rfl⟩
  cases hg : isGreat ss len
  · have h40 : len ≤ 40 := by
      by_cases c : 40 < len
      · unfold isGreat at hg
        rw [decide_eq_true c] at hg
        cases hg
      · omega
    have hlo : longs ss len = false := by
      unfold isGreat at hg
      rw [Bool.or_eq_false_iff] at hg
      exact hg.2
    have hn : offs ss len ≤ 40000 := by
      have := offs_le ss len (longs_false hlo)
      omega
    have HN := Lib.hid hn
    clear hlo hg hn
    have z := zero35
    have hgw : w.heap.size ≤ w1.heap.size := L1.size
    have G1 : Blk (w1.alloc (.cells z73 35)) w1.heap.size 35 73 (hv (fun _ => 0) (fun _ => 0) 0) := newHash w1
    have L2 : Below w.heap.size w (w1.alloc (.cells z73 35)) := L1.alloc L1.size _
    have I0 : Inv (joinF ss 0) (fun _ => 0) (fun _ => 0) 0 := ⟨fun h => absurd h (by omega), fun i hi => absurd hi (by omega)⟩
    obtain ⟨ad, cap, rfl, ha⟩ : ∃ ad cap, v = .slice ad len cap ∧ Hid (∀ w', Below w.heap.size w w' → 0 < len → ∃ b o, ad = some ⟨b, o, none⟩ ∧ b < w.heap.size ∧ ∀ i, i < len → w'.cell? ⟨b, o + i, none⟩ = some (.string (ss i))) := by
      obtain ⟨ad, cap, e, h⟩ := strs_addr (HS.out _ (Below.refl _ _))
      refine ⟨ad, cap, e, fun w' L hp => ?_⟩
      obtain ⟨b, o, h1, h2, h3⟩ := h hp
      exact ⟨b, o, h1, h2, fun i hi => by rw [L.cell h2]; exact h3 i hi⟩
    clear HS
    go_wp2_with fail
    generalize w1.heap.size = g at hgw G1 ⊢
    go_loopw [4, 5] (fun v i wr => ∃ (k : Nat) (st : Nat → W32) (blk : Nat → UInt8), k ≤ len ∧ i = .int .i64 k ∧ v = .string (str (offs ss k) (joinF ss k)) ∧ Blk wr g 35 73 (hv st blk (offs ss k)) ∧ Inv (joinF ss k) st blk (offs ss k) ∧ Below w.heap.size w wr) (fun _ i _ => len - (intOf i).toNat)
    case atStart => exact ⟨0, _, _, by omega, rfl, rfl, G1, I0, L2⟩
    case round =>
      clear G1 I0 L2 L1
      obtain ⟨k, st, blk, hk, rfl, rfl, hB, hI, hbl⟩ := hrel
      by_cases hgo : k < len ∧ k < 15
      · obtain ⟨hlt, h15⟩ := hgo
        obtain ⟨b, o, rfl, hb, hc⟩ := ha.out _ hbl (by omega)
        have ck := hc k hlt
        clear hc
        have b1 : (k : Int) < (len : Int) := by omega
        have b2 : (k : Int) < 15 := by omega
        have b3 : (0 : Int) ≤ (k : Int) := by omega
        have hn1 : offs ss (k + 1) ≤ 40000 := Nat.le_trans (offs_mono ss (by omega)) HN.out
        have hn2 : offs ss (k + 1) = offs ss k + (ss k).size := rfl
        obtain ⟨n, hnn⟩ : ∃ n, n = offs ss k := ⟨_, rfl⟩
        obtain ⟨J, hJ⟩ : ∃ J, J = joinF ss k := ⟨_, rfl⟩
        rw [← hnn, ← hJ]
        rw [← hnn] at hB hI hn2
        rw [← hJ] at hI
        have Hn := Lib.hid hnn
        have HJ := Lib.hid hJ
        clear hnn hJ
        go_upto_region 11 with (first | (refine wpList_load_blk rfl 35 (.tmp 3) rfl g rfl 35 73 (hv st blk n) hB _ Tryd.underlying35 rfl sz35 ?_) | (refine wpList_load_blk rfl 35 (.tmp 3) rfl g rfl 35 73 (hv st blk n) (hB.alloc _) _ Tryd.underlying35 rfl sz35 ?_) | (refine wpList_store_blk rfl 35 (.tmp 6) (.tmp 23) rfl wr.heap.size 73 (hv st blk n) (hv (fun _ => 0) (fun _ => 0) 0) rfl rfl 35 (newHash wr) sz35 (fun i _ => oneHv st blk n i) ?_))
        rw [World.setRow_alloc_new]
        have B2 := hB.alloc (.cells (arr 73 (hv st blk n)) 35)
        have C2 : Blk (wr.alloc (.cells (arr 73 (hv st blk n)) 35)) wr.heap.size 35 73 (hv st blk n) := Blk.newAt _ (heap_alloc_new _ _) rfl
        have L2 := hbl.alloc hbl.size (.cells (arr 73 (hv st blk n)) 35)
        have hgc : g < wr.heap.size := hB.lt
        clear hB hbl ck
        generalize wr.alloc (.cells (arr 73 (hv st blk n)) 35) = w2 at B2 C2 L2 ⊢
        generalize wr.heap.size = c at C2 hgc ⊢
        have hcl := C2.lt
        have A3 : ∀ T, Blk (w2.alloc (.cells #[.string other] T)) c 35 73 (hv st blk n) := fun T => C2.alloc _
        have H3 : ∀ T, Blk (w2.alloc (.cells #[.string other] T)) g 35 73 (hv st blk n) := fun T => B2.alloc _
        have M3 : ∀ T, Below w.heap.size w (w2.alloc (.cells #[.string other] T)) := fun T => L2.alloc L2.size _
        have K3 : ∀ T, (w2.alloc (.cells #[.string other] T)).cell? ⟨w2.heap.size, 0, none⟩ = some (.string other) := fun T => by
          rw [cell_of_row _ _ _ _ _ _ (heap_alloc_new _ _)]; rfl
        go_wp2_with fail
        refine (write_one other J st blk n c w2.heap.size _ (by show n + 5 ≤ _; omega) (A3 _) hI (by omega) (by omega) (HKW.out _ (M3 _)) (K3 _)).mono ?_
        rintro e w3 ⟨rfl, st3, blk3, C3, I3, hg3⟩
        have B3 := (H3 _).grown hg3 (by omega)
        have L3 := below_grown (M3 _) hg3 (M3 _).size (by omega)
        clear A3 H3 M3 K3 B2 C2 L2 hg3 hcl
        have eo : str n J ++ other = str (n + 5) (behind J n other) := str_behind J n other
        have so : other.size = 5 := rfl
        rw [so] at C3 I3
        obtain ⟨D1, D2, q1, q2, X1, X2, X3, X4, X5⟩ := grow_pack J (behind J n other) st st3 blk blk3 n (n + 5) g c w3 (by omega) (by omega) B3 hI C3 I3 (HKW.out _ L3)
        obtain ⟨t1, ht1⟩ : ∃ t1, t1 = str n J := ⟨_, rfl⟩
        obtain ⟨t2, ht2⟩ : ∃ t2, t2 = str (n + 5) (behind J n other) := ⟨_, rfl⟩
        rw [← ht1, ← ht2] at eo
        rw [← ht1] at X2
        rw [← ht2] at X5
        rw [← ht1]
        have ts : t1.size = n := by rw [ht1]; exact str_size _ _
        have n1 : ¬ 9223372036854775807 < t1.size + 5 := by omega
        have e1 : IntKind.u64.wrap (t1.size : Int) = (n : Int) := by rw [IntWalk.u64_in _ (by omega), ts]
        have eo' : t1 ++ (⟨#[111, 116, 104, 101, 114]⟩ : ByteArray) = t2 := eo
        have Ht1 := Lib.hid ht1
        have Hts := Lib.hid ts
        have HI := Lib.hid hI
        clear ht1 ht2 eo ts C3 I3 hI
        go_wp2_with fail
        refine (X1.out _ (Below.refl _ _)).mono ?_
        rintro e w4 ⟨rfl, M4⟩
        go_wp2_with fail
        refine (X2.out _).mono ?_
        rintro e w5 ⟨rfl, hb5⟩
        have M5 := below_next M4 hb5
        clear M4 hb5
        go_wp2_with fail
        refine (X3.out _ M5).mono ?_
        rintro e w' ⟨rfl, rfl⟩
        go_wp2_with fail
        refine (X4.out _ M5).mono ?_
        rintro e w6 ⟨rfl, hb6⟩
        have M6 := below_next M5 hb6
        clear M5 hb6
        go_wp2_with fail
        refine (X5.out _).mono ?_
        rintro e w7 ⟨rfl, hb7⟩
        have M7 := below_next M6 hb7
        clear M6 hb7 n1 e1 eo' X1 X2 X3 X4 X5
        have B7 := B3.below M7 B3.lt
        have L7 := L3.trans (M7.mono L3.size)
        clear B3 L3 M7
        obtain ⟨b', o', he, hb', hc'⟩ := ha.out _ L7 (by omega)
        cases he
        have ck := hc' k hlt
        clear hc'
        have H8 : ∀ T, Blk (w7.alloc (.cells #[.string (ss k)] T)) g 35 73 (hv st blk n) := fun T => B7.alloc _
        have M8 : ∀ T, Below w.heap.size w (w7.alloc (.cells #[.string (ss k)] T)) := fun T => L7.alloc L7.size _
        have K8 : ∀ T, (w7.alloc (.cells #[.string (ss k)] T)).cell? ⟨w7.heap.size, 0, none⟩ = some (.string (ss k)) := fun T => by
          rw [cell_of_row _ _ _ _ _ _ (heap_alloc_new _ _)]; rfl
        have hgl := B7.lt
        go_wp2_with fail
        refine (write_one (ss k) J st blk n g w7.heap.size _ (by omega) (H8 _) HI.out (by omega) (by omega) (HKW.out _ (M8 _)) (K8 _)).mono ?_
        rintro e w9 ⟨rfl, st9, blk9, C9, I9, hg9⟩
        have L9 := below_grown (M8 _) hg9 (M8 _).size (by omega)
        clear H8 M8 K8 B7 L7 hg9 hgl ck
        have ck : w9.cell? ⟨b, o + k, none⟩ = some (.string (ss k)) := by
          obtain ⟨b', o', he, hb', hc'⟩ := ha.out _ L9 (by omega)
          cases he
          exact hc' k hlt
        have n2 : ¬ 9223372036854775807 < t1.size + (ss k).size := by have := Hts.out; omega
        have et : t1 ++ ss k = str (offs ss (k + 1)) (joinF ss (k + 1)) := by
          rw [Ht1.out, str_behind, HJ.out, Hn.out]; rfl
        rw [HJ.out, Hn.out] at I9
        rw [Hn.out] at C9
        have I10 : Inv (joinF ss (k + 1)) st9 blk9 (offs ss (k + 1)) := I9
        have C10 : Blk w9 g 35 73 (hv st9 blk9 (offs ss (k + 1))) := C9
        have Het := Lib.hid et
        clear I9 C9 et hn2
        go_wp2_with fail
        go_roundw
        case rel => exact ⟨k + 1, st9, blk9, by omega, by go_num, congrArg Value.string Het.out, C10, I10, L9⟩
        case measure => simp [intOf]; omega
      · have hn3 : offs ss k ≤ 40000 := Nat.le_trans (offs_mono ss hk) HN.out
        obtain ⟨D1, D0, q1, q0, X1, X2, X6, X7⟩ := end_pack (joinF ss k) st blk (offs ss k) g wr (by omega) hB hI (HKW.out _ hbl)
        clear hB hI ha
        generalize str (offs ss k) (joinF ss k) = t1 at X2 ⊢
        have hex : (k < len ∧ 15 ≤ k) ∨ len ≤ k := by omega
        clear hgo
        rcases hex with ⟨hx1, hx2⟩ | hx
        · have b1 : (k : Int) < (len : Int) := by omega
          have b2 : (15 : Int) ≤ (k : Int) := by omega
          clear hx1 hx2
          go_wp2_with fail
          refine (write_nil _ _).mono ?_
          rintro e w' ⟨rfl, rfl⟩
          go_wp2_with fail
          refine (alive_any _ (HKW.out _ (hbl.alloc hbl.size _))).mono ?_
          rintro e w4 ⟨rfl, hb4⟩
          have M4 := below_next ((Below.refl wr.heap.size wr).alloc (Nat.le_refl _) _) hb4
          clear hb4
          go_wp2_with fail
          refine (X1.out _ M4).mono ?_
          rintro e w5 ⟨rfl, hb5⟩
          have M5 := below_next M4 hb5
          clear M4 hb5
          go_wp2_with fail
          refine (X2.out _).mono ?_
          rintro e w6 ⟨rfl, hb6⟩
          have M6 := below_next M5 hb6
          clear M5 hb6
          go_wp2_with fail
          refine (X6.out _ M6).mono ?_
          rintro e w7 ⟨rfl, hb7⟩
          have M7 := below_next M6 hb7
          clear M6 hb7
          go_wp2_with fail
          refine (X7.out _).mono ?_
          rintro e w8 ⟨rfl, hb8⟩
          have M8 := below_next M7 hb8
          clear M7 hb8
          go_wp2_with fail
          refine (hlen_nil _).mono ?_
          rintro e w' ⟨rfl, rfl⟩
          go_wp2_with fail
          go_ret
          exact ⟨rfl, hbl.trans (M8.mono hbl.size)⟩
        · have b1 : (len : Int) ≤ (k : Int) := by omega
          clear hx
          go_wp2_with fail
          refine (write_nil _ _).mono ?_
          rintro e w' ⟨rfl, rfl⟩
          go_wp2_with fail
          refine (alive_any _ (HKW.out _ (hbl.alloc hbl.size _))).mono ?_
          rintro e w4 ⟨rfl, hb4⟩
          have M4 := below_next ((Below.refl wr.heap.size wr).alloc (Nat.le_refl _) _) hb4
          clear hb4
          go_wp2_with fail
          refine (X1.out _ M4).mono ?_
          rintro e w5 ⟨rfl, hb5⟩
          have M5 := below_next M4 hb5
          clear M4 hb5
          go_wp2_with fail
          refine (X2.out _).mono ?_
          rintro e w6 ⟨rfl, hb6⟩
          have M6 := below_next M5 hb6
          clear M5 hb6
          go_wp2_with fail
          refine (X6.out _ M6).mono ?_
          rintro e w7 ⟨rfl, hb7⟩
          have M7 := below_next M6 hb7
          clear M6 hb7
          go_wp2_with fail
          refine (X7.out _).mono ?_
          rintro e w8 ⟨rfl, hb8⟩
          have M8 := below_next M7 hb8
          clear M7 hb8
          go_wp2_with fail
          refine (hlen_nil _).mono ?_
          rintro e w' ⟨rfl, rfl⟩
          go_wp2_with fail
          go_ret
          exact ⟨rfl, hbl.trans (M8.mono hbl.size)⟩
  · clear hg
    go_wp2_with fail
    refine (alive_any _ (HKW.out _ L1)).mono ?_
    rintro e w2 ⟨rfl, hb2⟩
    have L2 := L1.trans (hb2.mono L1.size)
    go_wp2_with fail
    go_ret
    exact ⟨rfl, L2⟩
end Go.Proofs.YtnfhnkplkbpmpaaDoor
