import Derived.Test.YtekeaoolodmdaaaHP
/- Parts made of texts. -/
namespace Go.Proofs.Ytekeaoolodmdaaa
set_option maxRecDepth 100000
open Go.RowKit
theorem ptv_eq (x : Pt) : ptv x = .agg #[.bool x.d, .int .i64 x.b, .string (bs x.t)] := rfl
set_option maxHeartbeats 4000000 in
theorem pack_any {T : List (List UInt8)} {Bs : List Int} {vt vb : Value} {w : World} (hT : RowS w vt T) (hB : RowI w vb Bs) (hn : T.length ≤ 10000) :
    Calls Try.prog 19 #[vt, vb] w fun e w' => ∃ u, e = .returned (.tuple #[u, .int .i64 (packR T Bs).2]) ∧ OwnP w' w.heap.size u (packR T Bs).1 ∧ Below w.heap.size w w' := by
  obtain ⟨R, hR⟩ : ∃ R, R = packR T Bs := ⟨_, rfl⟩
  rw [← hR]
  obtain ⟨n, hn1⟩ : ∃ n, n = T.length := ⟨_, rfl⟩
  obtain ⟨nb, hnb⟩ : ∃ nb, nb = Bs.length := ⟨_, rfl⟩
  have HT := Lib.hid hT
  have HB := Lib.hid hB
  obtain ⟨ad, cap, hvt, hc⟩ := RowS.cells hT
  obtain ⟨ad2, cap2, hvb, hc2⟩ := RowI.cells hB
  rw [← hn1] at hvt
  rw [← hnb] at hvb
  subst hvt
  subst hvb
  have HC := Lib.hid hc
  have HC2 := Lib.hid hc2
  have HN := Lib.hid hn1
  have HNB := Lib.hid hnb
  by_cases h1 : 200 < n ∨ nb ≠ n
  · have HR : Hid (R = ([], 1)) := by show _ = _; rw [hR]; unfold packR; rw [if_pos (by omega)]
    have hcs : (200 : Int) < (n : Int) ∨ (¬ (200 : Int) < (n : Int) ∧ ((nb : Int) == (n : Int)) = false) := by
      rcases h1 with h | h
      · left; omega
      · by_cases c : 200 < n
        · left; omega
        · right; exact ⟨by omega, by simp; omega⟩
    clear h1 hR hn1 hnb hc hc2 hT hB hn HC HC2 HT HB HNB
    rcases hcs with c1 | ⟨c1, c2⟩
    · go_enter Try.func19, Try.ntmps19
      go_wp2
      go_ret2
      exact ⟨.slice none 0 0, by rw [HR.out]; rfl, by rw [HR.out]; exact OwnG.nil _ _ _ _ _ _, Below.refl _ _⟩
    · have c3 : ¬ (nb : Int) = (n : Int) := by simpa using c2
      go_enter Try.func19, Try.ntmps19
      go_wp2
      go_ret2
      exact ⟨.slice none 0 0, by rw [HR.out]; rfl, by rw [HR.out]; exact OwnG.nil _ _ _ _ _ _, Below.refl _ _⟩
  · have hnn : nb = n := by omega
    have HR1 : Hid (∀ k, k < n → 4099 < (T.getD k []).length → R = ([], 19)) := fun k hk hl => by
      rw [hR]
      unfold packR
      rw [if_neg (by omega), if_pos (List.any_eq_true.2 ⟨_, getD_mem T [] k (by omega), decide_eq_true hl⟩)]
    have HR2 : Hid ((∀ k, k < n → ¬ 4099 < (T.getD k []).length) → R = (packL T Bs n, 0)) := fun h => by
      rw [hR]
      unfold packR
      have hf : T.any (fun x => decide (4099 < x.length)) = false := by
        rw [List.any_eq_false]
        intro x hx
        obtain ⟨k, hk, rfl⟩ := List.getElem_of_mem hx
        have := h k (by omega)
        rw [List.getD_eq_getElem?_getD, List.getElem?_eq_getElem hk] at this
        simpa using this
      rw [if_neg (by omega), hf, if_neg (by decide), hn1]
    have n2 : ¬ (200 : Int) < (n : Int) := by omega
    subst hnn
    have n200 : nb ≤ 200 := by omega
    clear h1 hR hnb hc hc2 hT hB hn hn1
    go_enter Try.func19, Try.ntmps19
    go_wp2
    go_loopw [25] (fun i wr => ∃ k : Nat, k ≤ nb ∧ i = .int .i64 (k : Int) ∧ Hid (∀ j, j < k → ¬ 4099 < (T.getD j []).length) ∧ w = wr) (fun i _ => nb - (intOf i).toNat)
    case atStart => exact ⟨0, Nat.zero_le _, rfl, fun j hj => by omega, rfl⟩
    case round =>
      obtain ⟨k, hk, rfl, hE, rfl⟩ := hrel
      by_cases hlt : k < nb
      · obtain ⟨b, o, rfl, hb, c0⟩ := HC.out k (by rw [← HN.out]; exact hlt)
        have hz := bs_size (T.getD k [])
        obtain ⟨m, hm⟩ : ∃ m, m = (T.getD k []).length := ⟨_, rfl⟩
        rw [← hm] at hz
        generalize bs (T.getD k []) = sb at *
        have zk : (0 : Int) ≤ (k : Int) := by omega
        have yk : (k : Int) < (nb : Int) := by omega
        have w6 : IntKind.i64.wrap ((k : Int) + 1) = (k : Int) + 1 := IntWalk.i64_in _ (by omega)
        by_cases hg : 4099 < m
        · have t3 : (4099 : Int) < (sb.size : Int) := by omega
          have e := Lib.hid (HR1.out k hlt (by rw [← hm]; exact hg))
          clear hz hm hg hE
          go_wp2
          go_ret2
          exact ⟨.slice none 0 0, by rw [e.out]; rfl, by rw [e.out]; exact OwnG.nil _ _ _ _ _ _, Below.refl _ _⟩
        · have t3 : (sb.size : Int) ≤ 4099 := by omega
          have HE : Hid (∀ j, j < k + 1 → ¬ 4099 < (T.getD j []).length) := fun j hj => by
            by_cases e : j = k
            · rw [e, ← hm]; exact hg
            · exact hE.out j (by omega)
          clear hz hm hg hE
          go_wp2
          go_roundw
          case rel => exact ⟨k + 1, by omega, by go_num, HE, trivial⟩
          case measure => simp [intOf]; omega
      · have e : k = nb := by omega
        subst e
        have HF := Lib.hid (HR2.out hE.out)
        have HLT : Hid (∀ x ∈ T, x.length ≤ 4099) := fun x hx => by
          obtain ⟨j, hj, rfl⟩ := List.getElem_of_mem hx
          have := hE.out j (by rw [HN.out]; exact hj)
          rw [List.getD_eq_getElem?_getD, List.getElem?_eq_getElem hj] at this
          have h2 : ¬ 4099 < T[j].length := this
          omega
        clear hE HR1 HR2 n2
        go_wp2
        go_loopw [35, 8] (fun i a wr => ∃ (j : Nat) (u : Value), u = a ∧ j ≤ k ∧ i = .int .i64 (j : Int) ∧ Hid (OwnP wr w.heap.size u (packL T Bs j)) ∧ Hid (Below w.heap.size w wr)) (fun i _ _ => k - (intOf i).toNat)
        case atStart => exact ⟨0, _, rfl, Nat.zero_le _, rfl, OwnG.nil _ _ _ _ _ _, Below.refl _ _⟩
        case round =>
          obtain ⟨j, u, rfl, hj, rfl, hO, hL⟩ := hrel
          by_cases hlt2 : j < k
          · obtain ⟨b, o, rfl, hb, c0⟩ := HC.out j (by rw [← HN.out]; exact hlt2)
            obtain ⟨b2, o2, rfl, hb2, c1⟩ := HC2.out j (by rw [← HNB.out]; exact hlt2)
            rw [← hL.out.cell (p := ⟨b, o + j, none⟩) hb] at c0
            rw [← hL.out.cell (p := ⟨b2, o2 + j, none⟩) hb2] at c1
            obtain ⟨L, hLL⟩ : ∃ L, L = packL T Bs j := ⟨_, rfl⟩
            obtain ⟨s, hs⟩ : ∃ s, s = T.getD j [] := ⟨_, rfl⟩
            obtain ⟨bb, hbb⟩ : ∃ bb, bb = Bs.getD j 0 := ⟨_, rfl⟩
            have HNX : Hid (packL T Bs (j + 1) = L ++ [packP L T bb s]) := by show _ = _; rw [packL, ← hLL, ← hs, ← hbb]
            have hLj : L.length = j := by rw [hLL]; exact packL_len T Bs j
            have hs4 : s.length ≤ 4099 := by rw [hs]; exact HLT.out _ (getD_mem T [] j (by rw [← HN.out]; exact hlt2))
            rw [← hs] at c0
            rw [← hbb] at c1
            rw [← hLL] at hO
            have C1 : Hid (∀ W u, RowP W u L → RowS W (.slice (some ⟨b, o, none⟩) k cap) T → _) := Lib.hid (fun W u h1 h2 => deltapart_any bb s (w := W) (v := u) h1 h2 (by rw [← HN.out]; omega) (by rw [← HN.out]; omega) HLT.out hs4)
            have zk : (0 : Int) ≤ (j : Int) := by omega
            have yk : (j : Int) < (k : Int) := by omega
            have w6 : IntKind.i64.wrap ((j : Int) + 1) = (j : Int) + 1 := IntWalk.i64_in _ (by omega)
            obtain ⟨x, hx⟩ : ∃ x, x = packP L T bb s := ⟨_, rfl⟩
            rw [← hx] at HNX
            have CC : Hid (∀ W, _) := Lib.hid (clone_any (bs s) (hs := by rw [bs_size]; omega))
            have AP : Hid (∀ W, OwnP W w.heap.size u L → w.heap.size ≤ W.heap.size → _) := Lib.hid (fun W h1 h2 => app_p (B := w.heap.size) (w := W) x h1 h2 (by omega))
            have RT := Lib.hid (HT.out.below hL.out)
            have RO := Lib.hid hO.out.row
            rw [hLj] at AP
            obtain ⟨au, nu, cu, hus⟩ : ∃ au nu cu, u = .slice au nu cu := by
              obtain ⟨x1, x2, x3⟩ := RowG.len hO.out.row
              exact ⟨_, _, _, x3⟩
            subst hus
            have e0 : bs [] = ⟨#[]⟩ := rfl
            cases hdp : dpart L T bb s with
            | some y =>
              have hxy : x = y := by rw [hx]; unfold packP; rw [hdp]; rfl
              subst hxy
              rw [hdp] at C1
              unfold dpv ptv at C1
              dsimp only at C1
              obtain ⟨xd, xb, xt⟩ := x
              dsimp only at C1 AP
              generalize bs xt = st at *
              generalize bs s = ss at *
              clear hx hdp hLL hs hbb hLj hs4 HC HC2 CC
              go_wp2_with fail
              refine (C1.out _ _ RO.out RT.out).mono ?_
              rintro e w2 ⟨rfl, B2⟩
              have L2 := Lib.hid (hL.out.trans (B2.mono hL.out.size))
              have O2 := Lib.hid (hO.out.all B2)
              have L3 : Hid (Below w.heap.size w (w2.alloc (.cells #[.bool xd, .int .i64 xb, .string st] 50))) := L2.out.alloc L2.out.size _
              have O3 : Hid (OwnP (w2.alloc (.cells #[.bool xd, .int .i64 xb, .string st] 50)) w.heap.size (.slice au nu cu) L) := O2.out.all ((Below.refl _ _).alloc (Nat.le_refl _) _)
              obtain ⟨g, gc, w4, hr, O4, B4⟩ := AP.out _ O3.out L3.out.size
              have hz1 : (w2.alloc (.cells #[.bool xd, .int .i64 xb, .string st] 50)).heap.size = w2.heap.size + 1 := by simp
              rw [hz1] at hr
              have L4 := Lib.hid (L3.out.trans B4)
              have HO4 := Lib.hid O4
              clear B2 B4 O4 O3 L3 O2 L2 AP C1 RO RT hO hL hz1
              go_wp2_with (at_builtin; refine wpList_append_run rfl (.tmp 56) (.tmp 58) 22 22 rfl _ _ _ _ rfl rfl hr ?_)
              clear hr
              go_wp2
              go_roundw
              case rel => exact ⟨j + 1, _, rfl, by omega, by go_num, by rw [HNX.out]; exact HO4.out, L4.out⟩
              case measure => simp [intOf]; omega
            | none =>
              have hxy : x = ⟨false, 0, s⟩ := by rw [hx]; unfold packP; rw [hdp]; rfl
              subst hxy
              rw [hdp] at C1
              unfold dpv ptv zp at C1
              dsimp only at C1 AP
              rw [e0] at C1
              generalize bs s = ss at *
              clear hx hdp hLL hs hbb hLj hs4 HC HC2
              go_wp2_with fail
              refine (C1.out _ _ RO.out RT.out).mono ?_
              rintro e w2 ⟨rfl, B2⟩
              have L2 := Lib.hid (hL.out.trans (B2.mono hL.out.size))
              have O2 := Lib.hid (hO.out.all B2)
              clear B2 C1 RO RT hO hL
              go_wp2_with fail
              refine (CC.out _).mono ?_
              rintro e w3 ⟨rfl, B3⟩
              have hk : w3.heap[w2.heap.size]? = some (.cells #[.bool false, .int .i64 0, .string ⟨#[]⟩] 50 (0, 0)) := by
                rw [B3.block w2.heap.size (by simp)]
                exact heap_alloc_new _ _
              have L3 : Hid (Below w.heap.size w w3) := (L2.out.alloc L2.out.size _).trans (B3.mono (by have := L2.out.size; simp; omega))
              have O3 : Hid (OwnP w3 w.heap.size (.slice au nu cu) L) := (O2.out.all ((Below.refl _ _).alloc (Nat.le_refl _) _)).all B3
              have c3 := cell_of_row _ _ 0 _ _ _ hk
              have c4 := cell_of_row _ _ 1 _ _ _ hk
              have c5 := cell_of_row _ _ 2 _ _ _ hk
              have f0 := frozen_of_row _ _ 0 _ _ hk
              have f1 := frozen_of_row _ _ 1 _ _ hk
              have f2 := frozen_of_row _ _ 2 _ _ hk
              obtain ⟨pk, hpk⟩ : ∃ pk, pk = w2.heap.size := ⟨_, rfl⟩
              have hk5 := three_set hk (.bool false) (.int .i64 0) (.string ss)
              have d0 := cell_of_row _ _ 0 _ _ _ hk5
              have d1 := cell_of_row _ _ 1 _ _ _ hk5
              have d2 := cell_of_row _ _ 2 _ _ _ hk5
              have L5 : Hid (Below w.heap.size w (((w3.setCell ⟨w2.heap.size, 0, none⟩ (.bool false)).setCell ⟨w2.heap.size, 1, none⟩ (.int .i64 0)).setCell ⟨w2.heap.size, 2, none⟩ (.string ss))) :=
                ((L3.out.setCell (by exact L2.out.size) _).setCell (by exact L2.out.size) _).setCell (by exact L2.out.size) _
              have O5 : Hid (OwnP (((w3.setCell ⟨w2.heap.size, 0, none⟩ (.bool false)).setCell ⟨w2.heap.size, 1, none⟩ (.int .i64 0)).setCell ⟨w2.heap.size, 2, none⟩ (.string ss)) w.heap.size (.slice au nu cu) L) := by
                have K5 : Keep (fun i => i ≠ w2.heap.size) w3 (((w3.setCell ⟨w2.heap.size, 0, none⟩ (.bool false)).setCell ⟨w2.heap.size, 1, none⟩ (.int .i64 0)).setCell ⟨w2.heap.size, 2, none⟩ (.string ss)) :=
                  (((Keep.refl _ _).setCell (p := ⟨w2.heap.size, 0, none⟩) (fun h => h rfl) _).setCell (p := ⟨w2.heap.size, 1, none⟩) (fun h => h rfl) _).setCell (p := ⟨w2.heap.size, 2, none⟩) (fun h => h rfl) _
                exact owns_keep O3.out K5 (fun g hg => by have := (own_lt O2.out hg).2; show g ≠ _; omega)
              obtain ⟨g, gc, w4, hr, O4, B4⟩ := AP.out _ O5.out L5.out.size
              have L4 := Lib.hid (L5.out.trans B4)
              have HO4 := Lib.hid O4
              have hz1 : (((w3.setCell ⟨w2.heap.size, 0, none⟩ (.bool false)).setCell ⟨w2.heap.size, 1, none⟩ (.int .i64 0)).setCell ⟨w2.heap.size, 2, none⟩ (.string ss)).heap.size = w3.heap.size := by simp [World.setCell]
              rw [hz1] at hr
              clear B3 B4 O4 O5 L5 O3 L3 O2 L2 AP CC hk hk5 hz1
              go_wp2_with (at_builtin; refine wpList_append_run rfl (.tmp 56) (.tmp 58) 22 22 rfl _ _ _ _ rfl rfl hr ?_)
              clear hr
              go_wp2
              go_roundw
              case rel => exact ⟨j + 1, _, rfl, by omega, by go_num, by rw [HNX.out]; exact HO4.out, L4.out⟩
              case measure => simp [intOf]; omega
          · have e : j = k := by omega
            subst e
            have HRE : Hid (R.2 = 0 ∧ R.1 = packL T Bs j) := by rw [HF.out]; exact ⟨rfl, rfl⟩
            clear HF HLT
            go_wp2
            go_ret2
            exact ⟨u, by rw [HRE.out.1]; rfl, by rw [HRE.out.2]; exact hO.out, hL.out⟩
end Go.Proofs.Ytekeaoolodmdaaa
