import Derived.Test.YtmcaapgcplhhmaaQ2
import Derived.Test.YtmcaapgcplhhmaaQ4
import Derived.Test.YtmcaapgcplhhmaaQ5
import Derived.Test.YtmcaapgcplhhmaaQ3
/- SketchOrder's function. -/
namespace Go.Proofs.Ytmcaapgcplhhmaa
open Go.RowKit
attribute [local go_sem] run_store_complex
set_option maxHeartbeats 8000000 in
set_option maxRecDepth 100000 in
theorem order_short (ss : Nat → ByteArray) (v : Value) (len : Nat) (w : World) (hl : len ≤ 30) (h500 : ∀ i, i < len → (ss i).size ≤ 500) (hg : isGreat ss len = false) (hS : Strs w v ss len) :
    Calls Try.prog 7 #[v] w fun e w' => e = .returned (.bool true) ∧ Below w.heap.size w w' := by
  have HG := Lib.hid (fun W (L : Below w.heap.size w W) => great_any ss v len W (by omega) (hS.below L))
  rw [hg] at HG
  have HK := Lib.hid (fun W (L : Below w.heap.size w W) => sketches_any ss v len W (by omega) (fun i hi => by have := h500 i hi; omega) (hS.below L))
  have HS := Lib.hid hS
  obtain ⟨ad0, cap0, rfl, -⟩ := strs_addr hS
  have ot : ∀ i, i < len → Ok (tsk ss i) := fun i hi => Ok.sk (by rw [bl_len]; have := h500 i hi; omega)
  have OF : ∀ i, i < len → ∀ W, Calls Try.prog 11 #[.slice (some ⟨W.heap.size, 0, none⟩) 1 1] (W.alloc (.cells #[.string (ss i)] 9)) fun e w' => e = .returned (SV (tsk ss i)) ∧ Below W.heap.size W w' := fun i hi W => of_on (ss i) (by have := h500 i hi; omega) W
  have FF : ∀ i j, i < len → j < len → ∀ W, Calls Try.prog 15 #[SV (tsk ss i), SV (tsk ss j)] W fun e w' => e = .returned (.int .i64 (dist (tsk ss) i j : Int)) ∧ Below W.heap.size W w' := fun i j hi hj W => far_any (tsk ss i) (tsk ss j) (ot i hi) (ot j hj) W
  have NQ : ∀ i, i < len → ∀ W : World, (binOp .neq 28 (SV (tsk ss i)) (SV (tsk ss i))).run Try.prog W = .ok (.bool false) W := fun i hi W => by
    rw [neq_sk _ _ (ot i hi) (ot i hi), decide_eq_true (far_self _)]; rfl
  have HOR := Lib.hid (fun W a (hR : Row W a 4 (skc (tsk ss)) len) (hr : Room a) => order_any (tsk ss) a len W ot (by omega) hR hr)
  unfold SV at OF FF NQ
  have HOF := Lib.hid OF
  have HFF := Lib.hid FF
  have HNQ := Lib.hid NQ
  clear OF FF NQ ot h500 hS hg
  go_enter Try.func7, Try.ntmps7
  go_wp2_with fail
  refine (alive_any _).mono ?_
  rintro e w1 ⟨rfl, L1⟩
  go_wp2_with fail
  refine (HG.out _ L1).mono ?_
  rintro e w2 ⟨rfl, rfl⟩
  go_wp2_with fail
  refine (HK.out _ L1).mono ?_
  rintro e w2 ⟨a, b, rfl, ra, rb, rm, B2⟩
  have L2 := Lib.hid (L1.trans (B2.mono L1.size))
  obtain ⟨ada, capa, rfl, -⟩ := row_addr ra
  have CO := Lib.hid (HOR.out w2 _ ra rm)
  have RA := Lib.hid ra
  clear ra rb rm B2 L1 HG HK HOR
  go_wp2_with fail
  refine CO.out.mono ?_
  rintro e w3 ⟨ado, capo, rfl, ro, B3⟩
  have N3 : Hid (PO w (tsk ss) (pl (dist (tsk ss)) len) ss (.slice ada len capa) (.slice ado len capo) (.slice ad0 len cap0) len w3) :=
    ⟨RA.out.below B3, ro, HS.out.below (L2.out.trans (B3.mono L2.out.size)), L2.out.trans (B3.mono L2.out.size)⟩
  clear ro B3 L2 RA CO HS
  go_wp2
  go_loopw [6, 7] (fun i _ wr => ∃ n : Nat, n ≤ len ∧ i = .int .i64 n ∧ Hid (PO w (tsk ss) (pl (dist (tsk ss)) len) ss (.slice ada len capa) (.slice ado len capo) (.slice ad0 len cap0) len wr)) (fun i _ _ => len - (intOf i).toNat)
  case atStart => exact ⟨0, by omega, rfl, N3⟩
  case round =>
    clear N3
    obtain ⟨n, hn, rfl, hN⟩ := hrel
    by_cases hlt : n < len
    · obtain ⟨ba, oa, rfl, hba, hca⟩ := row_at hN.out.ra (by omega)
      obtain ⟨bo, oo, rfl, hbo, hco⟩ := row_at hN.out.ro (by omega)
      obtain ⟨bl_, ol, rfl, hbl, hcl⟩ := strs_at hN.out.st (by omega)
      have zk : (0 : Int) ≤ (n : Int) := by omega
      have yk : (n : Int) < (len : Int) := by omega
      have hpl := pl_lt (dist (tsk ss)) len n hlt
      obtain ⟨x, hx⟩ : ∃ x, x = pl (dist (tsk ss)) len n := ⟨_, rfl⟩
      rw [← hx] at hpl
      have zx : (0 : Int) ≤ (x : Int) := by omega
      have yx : (x : Int) < (len : Int) := by omega
      have S0 : SI wr bo oo n (x : Int) ba oa x (tsk ss x) bl_ ol (ss x) wr.drew := by
        have c := fun j hj => (hca (x * 4 + j) (by omega)).trans (congrArg some (skc_at (tsk ss) x j hj))
        simp only [← Nat.add_assoc] at c
        exact ⟨by rw [hx]; exact hco n (by omega), ⟨c 0 (by omega), c 1 (by omega), c 2 (by omega), c 3 (by omega)⟩, hcl x hpl, (Below.refl _ _).drew⟩
      have OF := Lib.hid (HOF.out x hpl)
      have nq := HNQ.out x hpl
      have HX := Lib.hid hx
      clear hca hco hcl hba hbo hbl hx
      generalize tsk ss x = h at S0 OF nq
      generalize ss x = sx at S0 OF
      by_cases hn0 : n = 0
      · have x0 : x = 0 := by rw [HX.out, hn0]; rfl
        subst hn0
        subst x0
        have Z0 : SZ wr bo oo ba oa h bl_ ol sx wr.drew := S0
        have l0 : (0 : Int) < (len : Int) := by omega
        have l1 : decide ((len : Int) ≤ 0) = false := decide_eq_false (by omega)
        have l2 : decide (len = 0) = false := decide_eq_false (by omega)
        have l3 : ¬ len = 0 := by omega
        clear S0 zk yk zx yx
        go_wp2
        refine reg12z l0 l1 l2 l3 (by omega) Z0 OF nq ?_
        intro wa c31 c32 c33 c34 c35 c36 c37 c38 c39 c40 c41 c42 c43 c44 c45 c46 c47 c48 c49 c50 c51 c52 c53 c54 c55 c56 c57 c58 c59 c60 c61 c62 c63 c64 c65 c66 c67 c68 c69 c70 c71 c72 c73 Bwa
        have NA := Lib.hid (hN.out.keep Bwa)
        clear Z0 OF nq hN l1 l2 l3 Bwa
        go_wp2
        go_loopw [7] (fun kk wr2 => ∃ j : Nat, 1 ≤ j ∧ j ≤ len ∧ kk = .int .i64 j ∧ Hid (PO w (tsk ss) (pl (dist (tsk ss)) len) ss (.slice (some ⟨ba, oa, none⟩) len capa) (.slice (some ⟨bo, oo, none⟩) len capo) (.slice (some ⟨bl_, ol, none⟩) len cap0) len wr2)) (fun kk _ => len - (intOf kk).toNat)
        case atStart => exact ⟨1, by omega, by omega, by go_num, NA⟩
        case round =>
          clear NA
          obtain ⟨j, hj1, hj2, rfl, hP⟩ := hrel
          by_cases hjl : j < len
          · have cells := row_cells hP.out.ro (by omega)
            have cj := cells j (by omega)
            have cz := cells 0 (by omega)
            clear cells
            have e0 : inc (pl (dist (tsk ss)) len) 0 = .int .i64 0 := by unfold inc; rw [← HX.out]; rfl
            rw [e0, Nat.add_zero] at cz
            have hy0 : pl (dist (tsk ss)) len j ≠ 0 := by
              have h := pl_ne (dist (tsk ss)) len 0 j (by omega) hjl
              rw [← HX.out] at h
              exact h
            unfold inc at cj
            generalize pl (dist (tsk ss)) len j = y at cj hy0
            have zj : (0 : Int) ≤ (j : Int) := by omega
            have yj : (j : Int) < (len : Int) := by omega
            have q1 : ((y : Int) == 0) = false := beq_eq_false_iff_ne.2 (by omega)
            have q2 : ¬ (y : Int) = 0 := by omega
            clear e0
            go_wp2
            refine reg17z l0 (by omega) zj yj q1 q2 ⟨cj, cz, (Below.refl _ _).drew⟩ ?_
            intro wb c83 c84 c85 c86 c87 c88 c89 c90 c91 c92 c93 c94 c95 c96 c97 c98 c99 c100 c101 c102 c103 c104 c105 c106 c107 c108 c109 c110 c111 c112 c113 c114 c115 c116 c117 c118 c119 c120 c121 c122 c123 c124 c125 c126 c127 c128 c129 Bwb
            have H5 := Lib.hid (hP.out.keep Bwb)
            clear hP cj cz q1 q2 hy0 Bwb
            go_wp2
            go_roundw
            case rel => exact ⟨j + 1, by omega, by omega, by go_num, H5⟩
            case measure => simp [intOf]; omega
          · have e : j = len := by omega
            subst e
            have yj : (j : Int) ≤ (j : Int) := by omega
            have H5 := Lib.hid hP.out
            clear hP
            go_wp2
            go_roundw
            case rel => exact ⟨1, by omega, by go_num, H5⟩
            case measure => simp [intOf]; omega
      · have d0 : ((n : Int) == 0) = false := beq_eq_false_iff_ne.2 (by omega)
        have d1 : ¬ (n : Int) = 0 := by omega
        have d2 : decide ((x : Int) < 0) = false := decide_eq_false (by omega)
        have d3 : decide (len ≤ x) = false := decide_eq_false (by omega)
        go_wp2
        refine reg12 zk yk zx yx d0 d1 d2 d3 S0 OF nq ?_
        intro wa c31 c32 c33 c34 c35 c36 c37 c38 c39 c40 c41 c42 c43 c44 c45 c46 c47 c48 c49 c50 c51 c52 c53 c54 c55 c56 c57 c58 c59 c60 c61 c62 c63 c64 c65 c66 c67 c68 c69 c70 c71 c72 c73 Bwa
        have NA := Lib.hid (hN.out.keep Bwa)
        clear S0 OF nq hN d0 d1 d2 d3 Bwa
        go_wp2
        go_loopw [7] (fun kk wr2 => ∃ j : Nat, n + 1 ≤ j ∧ j ≤ len ∧ kk = .int .i64 j ∧ Hid (PO w (tsk ss) (pl (dist (tsk ss)) len) ss (.slice (some ⟨ba, oa, none⟩) len capa) (.slice (some ⟨bo, oo, none⟩) len capo) (.slice (some ⟨bl_, ol, none⟩) len cap0) len wr2)) (fun kk _ => len - (intOf kk).toNat)
        case atStart => exact ⟨n + 1, by omega, by omega, by go_num, NA⟩
        case round =>
          clear NA
          obtain ⟨j, hj1, hj2, rfl, hP⟩ := hrel
          by_cases hjl : j < len
          · obtain ⟨m, hm⟩ : ∃ m, m = n - 1 := ⟨_, rfl⟩
            have hyl := pl_lt (dist (tsk ss)) len j hjl
            have hul := pl_lt (dist (tsk ss)) len m (by omega)
            have hne := pl_ne (dist (tsk ss)) len n j (by omega) hjl
            have hnr := pl_near (dist (tsk ss)) len n j (by omega) hjl (by omega)
            rw [← hm, ← HX.out] at hnr
            rw [← HX.out] at hne
            have cells := row_cells hP.out.ro (by omega)
            have cellA := row_cells hP.out.ra (by omega)
            have S9 : SY wr bo oo j n m (pl (dist (tsk ss)) len j) x (pl (dist (tsk ss)) len m) ba oa (tsk ss (pl (dist (tsk ss)) len m)) (tsk ss (pl (dist (tsk ss)) len j)) (tsk ss x) wr.drew := by
              have c := fun i (hi : i < len) jj (hj : jj < 4) => (cellA (i * 4 + jj) (by omega)).trans (congrArg some (skc_at (tsk ss) i jj hj))
              simp only [← Nat.add_assoc] at c
              exact ⟨cells j (by omega), by rw [HX.out]; exact cells n (by omega), cells m (by omega), ⟨c _ hul 0 (by omega), c _ hul 1 (by omega), c _ hul 2 (by omega), c _ hul 3 (by omega)⟩, ⟨c _ hyl 0 (by omega), c _ hyl 1 (by omega), c _ hyl 2 (by omega), c _ hyl 3 (by omega)⟩, ⟨c _ hpl 0 (by omega), c _ hpl 1 (by omega), c _ hpl 2 (by omega), c _ hpl 3 (by omega)⟩, (Below.refl _ _).drew⟩
            clear cells cellA
            generalize pl (dist (tsk ss)) len j = y at S9 hyl hne hnr
            generalize pl (dist (tsk ss)) len m = u at S9 hul hnr
            have hmi : (n : Int) - 1 = (m : Int) := by omega
            have hmw : IntKind.i64.wrap ((n : Int) - 1) = (m : Int) := by rw [hmi]; exact IntWalk.i64_in _ (by omega)
            have hml : m < len := by omega
            have hww : IntKind.i64.wrap (m : Int) = (m : Int) := IntWalk.i64_in _ (by omega)
            have zj : (0 : Int) ≤ (j : Int) := by omega
            have yj : (j : Int) < (len : Int) := by omega
            have zm : (0 : Int) ≤ (m : Int) := by omega
            have ym : (m : Int) < (len : Int) := by omega
            have zn : (0 : Int) < (n : Int) := by omega
            have zn1 : decide ((0 : Int) < (n : Int)) = true := decide_eq_true zn
            have zn2 : decide (0 < n) = true := decide_eq_true (by omega)
            have zn3 : 0 < n := by omega
            have zu : (0 : Int) ≤ (u : Int) := by omega
            have yu : (u : Int) < (len : Int) := by omega
            have zy : (0 : Int) ≤ (y : Int) := by omega
            have yy : (y : Int) < (len : Int) := by omega
            have q1 : ((y : Int) == (x : Int)) = false := beq_eq_false_iff_ne.2 (by omega)
            have q2 : ¬ (y : Int) = (x : Int) := by omega
            have q3 : decide (dist (tsk ss) u y < dist (tsk ss) u x) = false := decide_eq_false (by omega)
            clear hne hnr hm
            go_wp2
            refine reg17 zk yk zx yx zj yj zm ym zu yu zy yy zn zn1 zn2 zn3 hmi hmw hww q1 q2 q3 S9 (HFF.out u y hul hyl) (HFF.out u x hul hpl) ?_
            intro wb c83 c84 c85 c86 c87 c88 c89 c90 c91 c92 c93 c94 c95 c96 c97 c98 c99 c100 c101 c102 c103 c104 c105 c106 c107 c108 c109 c110 c111 c112 c113 c114 c115 c116 c117 c118 c119 c120 c121 c122 c123 c124 c125 c126 c127 c128 c129 Bwb
            have H5 := Lib.hid (hP.out.keep Bwb)
            clear hP S9 Bwb q1 q2 q3
            go_wp2
            go_roundw
            case rel => exact ⟨j + 1, by omega, by omega, by go_num, H5⟩
            case measure => simp [intOf]; omega
          · have e : j = len := by omega
            subst e
            have yj : (j : Int) ≤ (j : Int) := by omega
            have H5 := Lib.hid hP.out
            clear hP
            go_wp2
            go_roundw
            case rel => exact ⟨n + 1, by omega, by go_num, H5⟩
            case measure => simp [intOf]; omega
    · have e : n = len := by omega
      subst e
      have yk : (n : Int) ≤ (n : Int) := by omega
      go_wp2_with fail
      refine (alive_any _).mono ?_
      rintro e w5 ⟨rfl, B5⟩
      go_wp2
      go_ret
      exact ⟨rfl, hN.out.lo.trans (B5.mono hN.out.lo.size)⟩
set_option maxHeartbeats 4000000 in
theorem order_great (ss : Nat → ByteArray) (v : Value) (len : Nat) (w : World) (hl : len ≤ 9223372036854775807) (hg : isGreat ss len = true) (hS : Strs w v ss len) :
    Calls Try.prog 7 #[v] w fun e w' => e = .returned (.bool true) ∧ Below w.heap.size w w' := by
  have HG := Lib.hid (fun W (L : Below w.heap.size w W) => great_any ss v len W hl (hS.below L))
  rw [hg] at HG
  clear hS hg
  go_enter Try.func7, Try.ntmps7
  go_wp2_with fail
  refine (alive_any _).mono ?_
  rintro e w1 ⟨rfl, L1⟩
  go_wp2_with fail
  refine (HG.out _ L1).mono ?_
  rintro e w2 ⟨rfl, rfl⟩
  go_wp2_with fail
  refine (alive_any _).mono ?_
  rintro e w2 ⟨rfl, B2⟩
  go_wp2
  go_ret
  exact ⟨rfl, L1.trans (B2.mono L1.size)⟩
theorem sketchorder_any (ss : Nat → ByteArray) (v : Value) (len : Nat) (w : World) (hl : len ≤ 9223372036854775807) (hS : Strs w v ss len) :
    Calls Try.prog 7 #[v] w fun e w' => e = .returned (.bool true) ∧ Below w.heap.size w w' := by
  cases hg : isGreat ss len
  · obtain ⟨h30, h500⟩ := great_false hg
    exact order_short ss v len w h30 h500 hg hS
  · exact order_great ss v len w hl hg hS
end Go.Proofs.Ytmcaapgcplhhmaa
