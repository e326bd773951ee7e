import Derived.Test.YtekeaoolodmdaaaHX
import Derived.Deep.Cut
/- The reference's parts made of texts. -/
namespace Go.Proofs.Ytekeaoolodmdaaa
set_option maxRecDepth 100000
open Go.RowKit
set_option maxHeartbeats 8000000 in
theorem qpack_any {T : List (List UInt8)} {Bs : List Int} {vt vb : Value} {w : World} (hT : RowS w vt T) (hB : RowI w vb Bs) (hn : T.length ≤ 10000) :
    Calls Try.prog 20 #[vt, vb] w fun e w' => ∃ u, e = .returned (.tuple #[u, .int .i64 (packR T Bs).2]) ∧ OwnP w' w.heap.size u (packR T Bs).1 ∧ Below w.heap.size w w' := by
  obtain ⟨R, hR⟩ : ∃ R, R = packR T Bs := ⟨_, rfl⟩
  rw [← hR]
  obtain ⟨n, hn1⟩ : ∃ n, n = T.length := ⟨_, rfl⟩
  obtain ⟨nb, hnb⟩ : ∃ nb, nb = Bs.length := ⟨_, rfl⟩
  have HT := Lib.hid hT
  have HB := Lib.hid hB
  obtain ⟨ad, cap, hvt, hc⟩ := RowS.cells hT
  obtain ⟨ad2, cap2, hvb, hc2⟩ := RowI.cells hB
  rw [← hn1] at hvt
  rw [← hnb] at hvb
  subst hvt
  subst hvb
  have HC := Lib.hid hc
  have HC2 := Lib.hid hc2
  have HN := Lib.hid hn1
  have HNB := Lib.hid hnb
  by_cases h1 : 200 < n ∨ nb ≠ n
  · have HR : Hid (R = ([], 1)) := by show _ = _; rw [hR]; unfold packR; rw [if_pos (by omega)]
    have hcs : (200 : Int) < (n : Int) ∨ (¬ (200 : Int) < (n : Int) ∧ ((nb : Int) == (n : Int)) = false) := by
      rcases h1 with h | h
      · left; omega
      · by_cases c : 200 < n
        · left; omega
        · right; exact ⟨by omega, by simp; omega⟩
    clear h1 hR hn1 hnb hc hc2 hT hB hn HC HC2 HT HB HNB
    rcases hcs with c1 | ⟨c1, c2⟩
    · go_enter Try.func20, Try.ntmps20
      go_wp2
      go_ret2
      exact ⟨.slice none 0 0, by rw [HR.out]; rfl, by rw [HR.out]; exact OwnG.nil _ _ _ _ _ _, Below.refl _ _⟩
    · have c3 : ¬ (nb : Int) = (n : Int) := by simpa using c2
      go_enter Try.func20, Try.ntmps20
      go_wp2
      go_ret2
      exact ⟨.slice none 0 0, by rw [HR.out]; rfl, by rw [HR.out]; exact OwnG.nil _ _ _ _ _ _, Below.refl _ _⟩
  · have hnn : nb = n := by omega
    have HR1 : Hid (∀ k, k < n → 4099 < (T.getD k []).length → R = ([], 19)) := fun k hk hl => by
      rw [hR]
      unfold packR
      rw [if_neg (by omega), if_pos (List.any_eq_true.2 ⟨_, getD_mem T [] k (by omega), decide_eq_true hl⟩)]
    have HR2 : Hid ((∀ k, k < n → ¬ 4099 < (T.getD k []).length) → R = (packL T Bs n, 0)) := fun h => by
      rw [hR]
      unfold packR
      have hf : T.any (fun x => decide (4099 < x.length)) = false := by
        rw [List.any_eq_false]
        intro x hx
        obtain ⟨k, hk, rfl⟩ := List.getElem_of_mem hx
        have := h k (by omega)
        rw [List.getD_eq_getElem?_getD, List.getElem?_eq_getElem hk] at this
        simpa using this
      rw [if_neg (by omega), hf, if_neg (by decide), hn1]
    have n2 : ¬ (200 : Int) < (n : Int) := by omega
    subst hnn
    have n200 : nb ≤ 200 := by omega
    clear h1 hR hnb hc hc2 hT hB hn hn1
    go_enter Try.func20, Try.ntmps20
    go_wp2
    go_loopw [6] (fun i wr => ∃ k : Nat, k ≤ nb ∧ i = .int .i64 (k : Int) ∧ Hid (∀ j, j < k → ¬ 4099 < (T.getD j []).length) ∧ w = wr) (fun i _ => nb - (intOf i).toNat)
    case atStart => exact ⟨0, Nat.zero_le _, rfl, fun j hj => by omega, rfl⟩
    case round =>
      obtain ⟨k, hk, rfl, hE, rfl⟩ := hrel
      by_cases hlt : k < nb
      · obtain ⟨b, o, rfl, hb, c0⟩ := HC.out k (by rw [← HN.out]; exact hlt)
        have hz := bs_size (T.getD k [])
        obtain ⟨m, hm⟩ : ∃ m, m = (T.getD k []).length := ⟨_, rfl⟩
        rw [← hm] at hz
        generalize bs (T.getD k []) = sb at *
        have zk : (0 : Int) ≤ (k : Int) := by omega
        have yk : (k : Int) < (nb : Int) := by omega
        have w6 : IntKind.i64.wrap ((k : Int) + 1) = (k : Int) + 1 := IntWalk.i64_in _ (by omega)
        by_cases hg : 4099 < m
        · have t3 : (4099 : Int) < (sb.size : Int) := by omega
          have e := Lib.hid (HR1.out k hlt (by rw [← hm]; exact hg))
          clear hz hm hg hE
          go_wp2
          go_ret2
          exact ⟨.slice none 0 0, by rw [e.out]; rfl, by rw [e.out]; exact OwnG.nil _ _ _ _ _ _, Below.refl _ _⟩
        · have t3 : (sb.size : Int) ≤ 4099 := by omega
          have HE : Hid (∀ j, j < k + 1 → ¬ 4099 < (T.getD j []).length) := fun j hj => by
            by_cases e : j = k
            · rw [e, ← hm]; exact hg
            · exact hE.out j (by omega)
          clear hz hm hg hE
          go_wp2
          go_roundw
          case rel => exact ⟨k + 1, by omega, by go_num, HE, trivial⟩
          case measure => simp [intOf]; omega
      · have e : k = nb := by omega
        subst e
        have HF := Lib.hid (HR2.out hE.out)
        have HLT : Hid (∀ x ∈ T, x.length ≤ 4099) := fun x hx => by
          obtain ⟨j, hj, rfl⟩ := List.getElem_of_mem hx
          have := hE.out j (by rw [HN.out]; exact hj)
          rw [List.getD_eq_getElem?_getD, List.getElem?_eq_getElem hj] at this
          have h2 : ¬ 4099 < T[j].length := this
          omega
        clear hE HR1 HR2 n2
        go_wp2
        go_loopw [7, 8] (fun a i wr => ∃ (j : Nat) (u : Value), u = a ∧ j ≤ k ∧ i = .int .i64 (j : Int) ∧ Hid (OwnP wr w.heap.size u (packL T Bs j)) ∧ Hid (Below w.heap.size w wr)) (fun _ i _ => k - (intOf i).toNat)
        case atStart => exact ⟨0, _, rfl, Nat.zero_le _, rfl, OwnG.nil _ _ _ _ _ _, Below.refl _ _⟩
        case round =>
          obtain ⟨j, u, rfl, hj, rfl, hO, hL⟩ := hrel
          by_cases hlt2 : j < k
          · obtain ⟨b, o, rfl, hb, c0⟩ := HC.out j (by rw [← HN.out]; exact hlt2)
            obtain ⟨b2, o2, rfl, hb2, c1⟩ := HC2.out j (by rw [← HNB.out]; exact hlt2)
            have hc0 : Hid (w.cell? ⟨b, o + j, none⟩ = some (.string (bs (T.getD j [])))) := c0
            rw [← hL.out.cell (p := ⟨b, o + j, none⟩) hb] at c0
            obtain ⟨L, hLL⟩ : ∃ L, L = packL T Bs j := ⟨_, rfl⟩
            obtain ⟨s, hs⟩ : ∃ s, s = T.getD j [] := ⟨_, rfl⟩
            obtain ⟨bb, hbb⟩ : ∃ bb, bb = Bs.getD j 0 := ⟨_, rfl⟩
            have hLj : L.length = j := by rw [hLL]; exact packL_len T Bs j
            have hPI : PI T L := by rw [hLL]; exact packL_PI' HLT.out (by rw [← HN.out]; omega) (by rw [← HN.out]; omega)
            have hPE := packP_eq hPI (by omega) bb s
            have HNX0 : Hid (packL T Bs (j + 1) = L ++ [packP L T bb s]) := by show _ = _; rw [packL, ← hLL, ← hs, ← hbb]
            have hs4 : s.length ≤ 4099 := by rw [hs]; exact HLT.out _ (getD_mem T [] j (by rw [← HN.out]; exact hlt2))
            rw [← hs] at c0 hc0
            rw [← hbb] at c1
            rw [← hLL] at hO
            have zs := bs_size s
            have zk : (0 : Int) ≤ (j : Int) := by omega
            have yk : (j : Int) < (k : Int) := by omega
            have w6 : IntKind.i64.wrap ((j : Int) + 1) = (j : Int) + 1 := IntWalk.i64_in _ (by omega)
            have AP : Hid (∀ W x, OwnP W w.heap.size u L → w.heap.size ≤ W.heap.size → _) := Lib.hid (fun W x h1 h2 => app_p (B := w.heap.size) (w := W) x h1 h2 (by omega))
            rw [hLj] at AP hPE
            obtain ⟨au, nu, cu, hus⟩ : ∃ au nu cu, u = .slice au nu cu := by
              obtain ⟨x1, x2, x3⟩ := RowG.len hO.out.row
              exact ⟨_, _, _, x3⟩
            subst hus
            have c1w : Hid (∀ o' : Obj, (wr.alloc o').cell? ⟨b2, o2 + j, none⟩ = some (.int .i64 bb)) := fun o' => by
              rw [((Below.refl wr.heap.size wr).alloc (Nat.le_refl _) o').cell (p := ⟨b2, o2 + j, none⟩) (Nat.lt_of_lt_of_le hb2 hL.out.size), hL.out.cell (p := ⟨b2, o2 + j, none⟩) hb2]; exact c1
            have L1 : Hid (∀ o' : Obj, Below w.heap.size w (wr.alloc o')) := fun o' => hL.out.alloc hL.out.size _
            have O1 : Hid (∀ o' : Obj, OwnP (wr.alloc o') w.heap.size (.slice au nu cu) L) := fun o' => hO.out.all ((Below.refl _ _).alloc (Nat.le_refl _) _)
            have hO0 : Hid (OwnP wr w.heap.size (.slice au nu cu) L) := hO.out
            have HWR : Hid (w.heap.size ≤ wr.heap.size) := hL.out.size
            by_cases hin : 0 ≤ bb ∧ bb < (j : Int)
            · obtain ⟨bn, rfl⟩ : ∃ bn : Nat, bb = (bn : Int) := ⟨bb.toNat, by omega⟩
              rw [if_pos hin] at hPE
              have hbj : bn < j := by omega
              have hbT : bn < T.length := by rw [← HN.out]; omega
              obtain ⟨B, hBB⟩ : ∃ B, B = T.getD bn [] := ⟨_, rfl⟩
              have hB4 : B.length ≤ 4099 := by rw [hBB]; exact HLT.out _ (getD_mem T [] bn hbT)
              obtain ⟨dd, hdd⟩ : ∃ dd, dd = dBy T (bn : Int) s := ⟨_, rfl⟩
              obtain ⟨hg, htt, hz⟩ := made_good hB4 hs4
              have hdd2 : dd = dg B.length ++ dg s.length ++ wzs (made B s) := by
                rw [hdd]
                show dBytes (T.getD bn []).length (made (T.getD bn []) s) = _
                rw [← hBB]
                unfold dBytes
                rw [hz]
              have zB := bs_size B
              have zd := bs_size dd
              have hcb : Hid (w.cell? ⟨b, o + bn, none⟩ = some (.string (bs B))) := by
                obtain ⟨bx, ox, e, _, cx⟩ := HC.out bn hbT
                cases e
                rw [hBB]; exact cx
              have CP : Hid (∀ W, RowP W (.slice au nu cu) L → _) := Lib.hid (fun W h => qpath_any (bn : Int) (w := W) h (by omega))
              have D1 : Hid (∀ W, _) := Lib.hid (fun W => qmake_any B s W hB4 hs4)
              have D3 : Hid (∀ W v, RowZ W v (made B s) → Calls Try.prog 28 #[.int .i64 ((bs B).size : Int), .int .i64 ((bs s).size : Int), v] W fun e w' => e = .returned (.string (bs dd)) ∧ Below W.heap.size W w') := fun W v h => by
                rw [zB, zs, hdd2]
                have h4 := szs_ge hg
                exact qwrite_any B.length s.length (made B s) v W hB4 hs4 h hg (fun x hx => good_small hB4 (hg x hx)) (by omega)
              obtain ⟨way, er, hW⟩ : ∃ way er, qwayR L (bn : Int) = (way, er) := ⟨_, _, rfl⟩
              have hwl : way.length ≤ 5 := by
                by_cases c : er = 0
                · have := (wayR_way (l := L) (at_ := (bn : Int)) (by rw [qwayR_ok (by rw [hW]; exact c), hW]; exact c)).2.2.2.2.2
                  rw [qwayR_ok (by rw [hW]; exact c), hW] at this
                  exact this
                · have := qwayR_err (l := L) (at_ := (bn : Int)) (by rw [hW]; exact c)
                  rw [hW] at this
                  dsimp only at this
                  rw [this]; decide
              rw [hW] at CP hPE
              dsimp only at CP hPE
              rw [← hdd] at hPE
              obtain ⟨nw, hnw⟩ : ∃ nw, nw = way.length := ⟨_, rfl⟩
              rw [← hnw] at hPE hwl
              have HNW := Lib.hid hnw
              have w7 : IntKind.i64.wrap ((nw : Int) - 1) = (nw : Int) - 1 := IntWalk.i64_in _ (by omega)
              have HPE := Lib.hid hPE
              have HZ := Lib.hid (And.intro zs zd)
              have yb : (bn : Int) < (k : Int) := by omega
              have y0 : (0 : Int) ≤ (bn : Int) := by omega
              have ybj : (bn : Int) < (j : Int) := by omega
              have HCC : Hid (∀ W : World, Below w.heap.size w W → W.cell? ⟨b, o + bn, none⟩ = some (.string (bs B)) ∧ W.cell? ⟨b, o + j, none⟩ = some (.string (bs s))) := fun W hW => ⟨by rw [hW.cell (p := ⟨b, o + bn, none⟩) hb]; exact hcb.out, by rw [hW.cell (p := ⟨b, o + j, none⟩) hb]; exact hc0.out⟩
              generalize made B s = LP at *
              generalize bs B = sB at *
              obtain ⟨ss, hss⟩ : ∃ ss, ss = bs s := ⟨_, rfl⟩
              rw [← hss] at D1 D3 HCC c0
              have HSS := Lib.hid hss
              obtain ⟨sd, hsd⟩ : ∃ sd, sd = bs dd := ⟨_, rfl⟩
              rw [← hsd] at D3
              have HSD := Lib.hid hsd
              have hpk : Hid ((wr.alloc (.cells #[.bool false, .int .i64 0, .string ss] 50)).heap[wr.heap.size]? = some (.cells #[.bool false, .int .i64 0, .string ss] 50 (0, 0))) := heap_alloc_new _ _
              have cb := c1w.out (.cells #[.bool false, .int .i64 0, .string ss] 50)
              clear hsd hss hcb zB zd hdd2 hg htt hz hB4 hdd hBB hbT hin hnw hPE hW hPI hLL hs hbb hs4 hLj zs c1 c1w hc0 HC HC2 hO hL
              go_upto_region 15 with fail
              have L1' := L1.out (.cells #[.bool false, .int .i64 0, .string ss] 50)
              have O1' := O1.out (.cells #[.bool false, .int .i64 0, .string ss] 50)
              have HPK := Lib.hid hpk.out
              clear hpk L1 O1 cb
              go_wp2_with fail
              refine (CP.out _ O1'.row).mono ?_
              rintro e w2 ⟨pw, rfl, Ow, B2⟩
              obtain ⟨aw, nw', cw, hnw', rfl⟩ : ∃ aw n cw, n = way.length ∧ pw = .slice aw n cw := by
                obtain ⟨x1, x2, x3⟩ := RowG.len Ow.row
                exact ⟨_, _, _, rfl, x3⟩
              rw [← HNW.out] at hnw'
              have hnw2 := hnw'.symm
              subst hnw2
              clear hnw'
              have hp2 : Hid (w2.heap[wr.heap.size]? = some (.cells #[.bool false, .int .i64 0, .string ss] 50 (0, 0))) := by show _ = _; rw [B2.block wr.heap.size (by simp)]; exact HPK.out
              have L2 := Lib.hid (L1'.trans (B2.mono L1'.size))
              have O2 : Hid (OwnP w2 w.heap.size (.slice au nu cu) L) := O1'.all B2
              have hpl : Hid (wr.heap.size < w2.heap.size) := lt_of_block hp2.out
              have hnb : Hid (∀ g, (Value.slice au nu cu).ownBlock = some g → g ≠ wr.heap.size) := fun g hg => by
                have := own_lt hO0.out hg
                omega
              clear B2 Ow L1' O1' CP HPK
              go_wp2
              have b0 : Below w2.heap.size w2 w2.drew := (Below.refl _ _).drew
              have SB : Hid (∀ W, Below w2.heap.size w2 W → W.cell? ⟨b, o + bn, none⟩ = some (.string sB) ∧ W.cell? ⟨b, o + j, none⟩ = some (.string ss) ∧ Below w2.heap.size w2 W) := fun W hW => by
                have := HCC.out W (L2.out.trans (hW.mono L2.out.size))
                exact ⟨this.1, this.2, hW⟩
              refine wp_region_noPanic ?_
              refine wp_region_held_drew (S := (fun W => W.cell? ⟨b, o + bn, none⟩ = some (.string sB) ∧ W.cell? ⟨b, o + j, none⟩ = some (.string ss) ∧ Below w2.heap.size w2 W)) (by kernel_rfl) (SB.out _ b0) (fun hHeld => ?_)
              refine wpAnyH_take (i := 0) (oi := { dst := some 65, op := Op.move (Operand.tmp 0), type := 35, pos := "ref.go:91", after := #[], guard := none }) (v := ?_) rfl (by kernel_rfl) (by kernel_rfl) (by kernel_rfl) (fun _ _ _ h => h) (Or.inl ⟨by kernel_rfl, ?_⟩) (by assumption) ?_
              rotate_left 1
              · (intro wS hSw; (try dsimp only at hSw); go_simp; try with_reducible rfl)
              try simp only [Act.put, List.setIfInBounds_toArray, List.set_cons_zero, List.set_cons_succ]
              refine wpAnyH_take (i := 1) (oi := { dst := some 66, op := Op.move (Operand.tmp 10), type := 3, pos := "ref.go:91", after := #[], guard := none }) (v := ?_) rfl (by kernel_rfl) (by kernel_rfl) (by kernel_rfl) (fun _ _ _ h => h) (Or.inl ⟨by kernel_rfl, ?_⟩) (by assumption) ?_
              rotate_left 1
              · (intro wS hSw; (try dsimp only at hSw); go_simp; try with_reducible rfl)
              try simp only [Act.put, List.setIfInBounds_toArray, List.set_cons_zero, List.set_cons_succ]
              refine wpAnyH_take (i := 2) (oi := { dst := some 67, op := Op.indexAddr 35 (Operand.tmp 65) (Operand.tmp 66), type := 0, pos := "ref.go:91", after := #[{ on := 0, ground := Ground.data }, { on := 1, ground := Ground.data }], guard := none }) (v := ?_) rfl (by kernel_rfl) (by kernel_rfl) (by kernel_rfl) (fun _ _ _ h => h) (Or.inl ⟨by kernel_rfl, ?_⟩) (by assumption) ?_
              rotate_left 1
              · (intro wS hSw; (try dsimp only at hSw); go_simp; try with_reducible rfl)
              try simp only [Act.put, List.setIfInBounds_toArray, List.set_cons_zero, List.set_cons_succ]
              refine wpAnyH_take (i := 3) (oi := { dst := some 68, op := Op.load 9 (Operand.tmp 67), type := 9, pos := "ref.go:91", after := #[{ on := 2, ground := Ground.data }], guard := none }) (v := ?_) rfl (by kernel_rfl) (by kernel_rfl) (by kernel_rfl) (fun _ _ _ h => h) (Or.inl ⟨by kernel_rfl, ?_⟩) (by assumption) ?_
              rotate_left 1
              · (intro wS hSw; (try dsimp only at hSw); go_simp; try with_reducible rfl)
              try simp only [Act.put, List.setIfInBounds_toArray, List.set_cons_zero, List.set_cons_succ]
              refine wpAnyH_take (i := 4) (oi := { dst := some 69, op := Op.move (Operand.tmp 0), type := 35, pos := "ref.go:91", after := #[], guard := none }) (v := ?_) rfl (by kernel_rfl) (by kernel_rfl) (by kernel_rfl) (fun _ _ _ h => h) (Or.inl ⟨by kernel_rfl, ?_⟩) (by assumption) ?_
              rotate_left 1
              · (intro wS hSw; (try dsimp only at hSw); go_simp; try with_reducible rfl)
              try simp only [Act.put, List.setIfInBounds_toArray, List.set_cons_zero, List.set_cons_succ]
              refine wpAnyH_take (i := 5) (oi := { dst := some 70, op := Op.move (Operand.tmp 8), type := 3, pos := "ref.go:91", after := #[], guard := none }) (v := ?_) rfl (by kernel_rfl) (by kernel_rfl) (by kernel_rfl) (fun _ _ _ h => h) (Or.inl ⟨by kernel_rfl, ?_⟩) (by assumption) ?_
              rotate_left 1
              · (intro wS hSw; (try dsimp only at hSw); go_simp; try with_reducible rfl)
              try simp only [Act.put, List.setIfInBounds_toArray, List.set_cons_zero, List.set_cons_succ]
              refine wpAnyH_take (i := 6) (oi := { dst := some 71, op := Op.indexAddr 35 (Operand.tmp 69) (Operand.tmp 70), type := 0, pos := "ref.go:91", after := #[{ on := 4, ground := Ground.data }, { on := 5, ground := Ground.data }], guard := none }) (v := ?_) rfl (by kernel_rfl) (by kernel_rfl) (by kernel_rfl) (fun _ _ _ h => h) (Or.inl ⟨by kernel_rfl, ?_⟩) (by assumption) ?_
              rotate_left 1
              · (intro wS hSw; (try dsimp only at hSw); go_simp; try with_reducible rfl)
              try simp only [Act.put, List.setIfInBounds_toArray, List.set_cons_zero, List.set_cons_succ]
              refine wpAnyH_take (i := 7) (oi := { dst := some 72, op := Op.load 9 (Operand.tmp 71), type := 9, pos := "ref.go:91", after := #[{ on := 6, ground := Ground.data }], guard := none }) (v := ?_) rfl (by kernel_rfl) (by kernel_rfl) (by kernel_rfl) (fun _ _ _ h => h) (Or.inl ⟨by kernel_rfl, ?_⟩) (by assumption) ?_
              rotate_left 1
              · (intro wS hSw; (try dsimp only at hSw); go_simp; try with_reducible rfl)
              try simp only [Act.put, List.setIfInBounds_toArray, List.set_cons_zero, List.set_cons_succ]
              refine wpAnyH_ready (rs := [8]) (by kernel_rfl) (by simp) ?_
              refine AllReadyH.cons (o := { dst := some 73, op := Op.call { callee := Callee.value (Operand.func 27), args := #[Operand.tmp 68, Operand.tmp 72], argTypes := #[9, 9] }, type := 59, pos := "ref.go:91", after := #[{ on := 3, ground := Ground.data }, { on := 7, ground := Ground.data }], guard := none }) rfl (fun K hK => ?_) AllReadyH.nil
              go_simp
              refine (D1.out _).mono ?_
              rintro e w3 ⟨pv, rfl, O3, B3⟩
              have Sa8 := SB.out _ (b0.trans B3)
              refine hK.out _ _ Sa8 (fun hHeld8 => ?_)
              clear hK K
              try simp only [Act.put, List.setIfInBounds_toArray, List.set_cons_zero, List.set_cons_succ]
              refine wpAnyH_take (i := 9) (oi := { dst := some 13, op := Op.assign (Operand.tmp 73), type := 59, pos := "ref.go:91", after := #[{ on := 8, ground := Ground.data }, { on := 8, ground := Ground.chain }, { on := 0, ground := Ground.phase }, { on := 1, ground := Ground.phase }, { on := 2, ground := Ground.phase }, { on := 3, ground := Ground.phase }, { on := 4, ground := Ground.phase }, { on := 5, ground := Ground.phase }, { on := 6, ground := Ground.phase }, { on := 7, ground := Ground.phase }, { on := 8, ground := Ground.phase }], guard := none }) (v := ?_) rfl (by kernel_rfl) (by kernel_rfl) (by kernel_rfl) (fun _ _ _ h => h) (Or.inl ⟨by kernel_rfl, ?_⟩) (by assumption) ?_
              rotate_left 1
              · (intro wS hSw; (try dsimp only at hSw); go_simp; try with_reducible rfl)
              try simp only [Act.put, List.setIfInBounds_toArray, List.set_cons_zero, List.set_cons_succ]
              refine wpAnyH_done (by kernel_rfl) ?_ _
              refine NoPanic.normal ?_
              have R3 := Lib.hid O3.row
              have L3 := Lib.hid (L2.out.trans (Sa8.2.2.mono L2.out.size))
              have hp3 : Hid (w3.heap[wr.heap.size]? = some (.cells #[.bool false, .int .i64 0, .string ss] 50 (0, 0))) := by show _ = _; rw [Sa8.2.2.block wr.heap.size hpl.out]; exact hp2.out
              have O3' : Hid (OwnP w3 w.heap.size (.slice au nu cu) L) := O2.out.all Sa8.2.2
              clear Sa8 B3 O3 SB b0 D1 hHeld hHeld8 hp2 L2 O2
              go_wp2
              have b0 : Below w3.heap.size w3 w3.drew := (Below.refl _ _).drew
              have SB : Hid (∀ W, Below w3.heap.size w3 W → W.cell? ⟨b, o + bn, none⟩ = some (.string sB) ∧ W.cell? ⟨b, o + j, none⟩ = some (.string ss) ∧ Below w3.heap.size w3 W) := fun W hW => by
                have := HCC.out W (L3.out.trans (hW.mono L3.out.size))
                exact ⟨this.1, this.2, hW⟩
              have R3d : RowZ w3.drew pv LP := R3.out.below b0
              refine wp_region_noPanic ?_
              refine wp_region_held_drew (S := (fun W => W.cell? ⟨b, o + bn, none⟩ = some (.string sB) ∧ W.cell? ⟨b, o + j, none⟩ = some (.string ss) ∧ Below w3.heap.size w3 W)) (by kernel_rfl) (SB.out _ b0) (fun hHeld => ?_)
              refine wpAnyH_take (i := 0) (oi := { dst := some 74, op := Op.move (Operand.tmp 0), type := 35, pos := "ref.go:92", after := #[], guard := none }) (v := ?_) rfl (by kernel_rfl) (by kernel_rfl) (by kernel_rfl) (fun _ _ _ h => h) (Or.inl ⟨by kernel_rfl, ?_⟩) (by assumption) ?_
              rotate_left 1
              · (intro wS hSw; (try dsimp only at hSw); go_simp; try with_reducible rfl)
              try simp only [Act.put, List.setIfInBounds_toArray, List.set_cons_zero, List.set_cons_succ]
              refine wpAnyH_take (i := 1) (oi := { dst := some 75, op := Op.move (Operand.tmp 10), type := 3, pos := "ref.go:92", after := #[], guard := none }) (v := ?_) rfl (by kernel_rfl) (by kernel_rfl) (by kernel_rfl) (fun _ _ _ h => h) (Or.inl ⟨by kernel_rfl, ?_⟩) (by assumption) ?_
              rotate_left 1
              · (intro wS hSw; (try dsimp only at hSw); go_simp; try with_reducible rfl)
              try simp only [Act.put, List.setIfInBounds_toArray, List.set_cons_zero, List.set_cons_succ]
              refine wpAnyH_take (i := 2) (oi := { dst := some 76, op := Op.indexAddr 35 (Operand.tmp 74) (Operand.tmp 75), type := 0, pos := "ref.go:92", after := #[{ on := 0, ground := Ground.data }, { on := 1, ground := Ground.data }], guard := none }) (v := ?_) rfl (by kernel_rfl) (by kernel_rfl) (by kernel_rfl) (fun _ _ _ h => h) (Or.inl ⟨by kernel_rfl, ?_⟩) (by assumption) ?_
              rotate_left 1
              · (intro wS hSw; (try dsimp only at hSw); go_simp; try with_reducible rfl)
              try simp only [Act.put, List.setIfInBounds_toArray, List.set_cons_zero, List.set_cons_succ]
              refine wpAnyH_take (i := 3) (oi := { dst := some 77, op := Op.load 9 (Operand.tmp 76), type := 9, pos := "ref.go:92", after := #[{ on := 2, ground := Ground.data }], guard := none }) (v := ?_) rfl (by kernel_rfl) (by kernel_rfl) (by kernel_rfl) (fun _ _ _ h => h) (Or.inl ⟨by kernel_rfl, ?_⟩) (by assumption) ?_
              rotate_left 1
              · (intro wS hSw; (try dsimp only at hSw); go_simp; try with_reducible rfl)
              try simp only [Act.put, List.setIfInBounds_toArray, List.set_cons_zero, List.set_cons_succ]
              refine wpAnyH_take (i := 4) (oi := { dst := some 78, op := Op.call { callee := Callee.builtin Builtin.len, args := #[Operand.tmp 77], argTypes := #[9] }, type := 3, pos := "ref.go:92", after := #[{ on := 3, ground := Ground.data }], guard := none }) (v := ?_) rfl (by kernel_rfl) (by kernel_rfl) (by kernel_rfl) (fun _ _ _ h => h) (Or.inl ⟨by kernel_rfl, ?_⟩) (by assumption) ?_
              rotate_left 1
              · (intro wS hSw; (try dsimp only at hSw); go_simp; try with_reducible rfl)
              try simp only [Act.put, List.setIfInBounds_toArray, List.set_cons_zero, List.set_cons_succ]
              refine wpAnyH_take (i := 5) (oi := { dst := some 79, op := Op.move (Operand.tmp 0), type := 35, pos := "ref.go:92", after := #[], guard := none }) (v := ?_) rfl (by kernel_rfl) (by kernel_rfl) (by kernel_rfl) (fun _ _ _ h => h) (Or.inl ⟨by kernel_rfl, ?_⟩) (by assumption) ?_
              rotate_left 1
              · (intro wS hSw; (try dsimp only at hSw); go_simp; try with_reducible rfl)
              try simp only [Act.put, List.setIfInBounds_toArray, List.set_cons_zero, List.set_cons_succ]
              refine wpAnyH_take (i := 6) (oi := { dst := some 80, op := Op.move (Operand.tmp 8), type := 3, pos := "ref.go:92", after := #[], guard := none }) (v := ?_) rfl (by kernel_rfl) (by kernel_rfl) (by kernel_rfl) (fun _ _ _ h => h) (Or.inl ⟨by kernel_rfl, ?_⟩) (by assumption) ?_
              rotate_left 1
              · (intro wS hSw; (try dsimp only at hSw); go_simp; try with_reducible rfl)
              try simp only [Act.put, List.setIfInBounds_toArray, List.set_cons_zero, List.set_cons_succ]
              refine wpAnyH_take (i := 7) (oi := { dst := some 81, op := Op.indexAddr 35 (Operand.tmp 79) (Operand.tmp 80), type := 0, pos := "ref.go:92", after := #[{ on := 5, ground := Ground.data }, { on := 6, ground := Ground.data }], guard := none }) (v := ?_) rfl (by kernel_rfl) (by kernel_rfl) (by kernel_rfl) (fun _ _ _ h => h) (Or.inl ⟨by kernel_rfl, ?_⟩) (by assumption) ?_
              rotate_left 1
              · (intro wS hSw; (try dsimp only at hSw); go_simp; try with_reducible rfl)
              try simp only [Act.put, List.setIfInBounds_toArray, List.set_cons_zero, List.set_cons_succ]
              refine wpAnyH_take (i := 8) (oi := { dst := some 82, op := Op.load 9 (Operand.tmp 81), type := 9, pos := "ref.go:92", after := #[{ on := 7, ground := Ground.data }], guard := none }) (v := ?_) rfl (by kernel_rfl) (by kernel_rfl) (by kernel_rfl) (fun _ _ _ h => h) (Or.inl ⟨by kernel_rfl, ?_⟩) (by assumption) ?_
              rotate_left 1
              · (intro wS hSw; (try dsimp only at hSw); go_simp; try with_reducible rfl)
              try simp only [Act.put, List.setIfInBounds_toArray, List.set_cons_zero, List.set_cons_succ]
              refine wpAnyH_take (i := 9) (oi := { dst := some 83, op := Op.call { callee := Callee.builtin Builtin.len, args := #[Operand.tmp 82], argTypes := #[9] }, type := 3, pos := "ref.go:92", after := #[{ on := 8, ground := Ground.data }], guard := none }) (v := ?_) rfl (by kernel_rfl) (by kernel_rfl) (by kernel_rfl) (fun _ _ _ h => h) (Or.inl ⟨by kernel_rfl, ?_⟩) (by assumption) ?_
              rotate_left 1
              · (intro wS hSw; (try dsimp only at hSw); go_simp; try with_reducible rfl)
              try simp only [Act.put, List.setIfInBounds_toArray, List.set_cons_zero, List.set_cons_succ]
              refine wpAnyH_take (i := 10) (oi := { dst := some 84, op := Op.move (Operand.tmp 13), type := 59, pos := "ref.go:92", after := #[], guard := none }) (v := ?_) rfl (by kernel_rfl) (by kernel_rfl) (by kernel_rfl) (fun _ _ _ h => h) (Or.inl ⟨by kernel_rfl, ?_⟩) (by assumption) ?_
              rotate_left 1
              · (intro wS hSw; (try dsimp only at hSw); go_simp; try with_reducible rfl)
              try simp only [Act.put, List.setIfInBounds_toArray, List.set_cons_zero, List.set_cons_succ]
              refine wpAnyH_ready (rs := [11]) (by kernel_rfl) (by simp) ?_
              refine AllReadyH.cons (o := { dst := some 85, op := Op.call { callee := Callee.value (Operand.func 28), args := #[Operand.tmp 78, Operand.tmp 83, Operand.tmp 84], argTypes := #[3, 3, 59] }, type := 9, pos := "ref.go:92", after := #[{ on := 4, ground := Ground.data }, { on := 9, ground := Ground.data }, { on := 10, ground := Ground.data }], guard := none }) rfl (fun K hK => ?_) AllReadyH.nil
              go_simp
              refine (D3.out _ _ R3d).mono ?_
              rintro e w4 ⟨rfl, B4⟩
              have Sa11 := SB.out _ (b0.trans B4)
              refine hK.out _ _ Sa11 (fun hHeld11 => ?_)
              clear hK K
              try simp only [Act.put, List.setIfInBounds_toArray, List.set_cons_zero, List.set_cons_succ]
              refine wpAnyH_take (i := 12) (oi := { dst := some 14, op := Op.assign (Operand.tmp 85), type := 9, pos := "ref.go:92", after := #[{ on := 11, ground := Ground.data }, { on := 11, ground := Ground.chain }, { on := 0, ground := Ground.phase }, { on := 1, ground := Ground.phase }, { on := 2, ground := Ground.phase }, { on := 3, ground := Ground.phase }, { on := 4, ground := Ground.phase }, { on := 5, ground := Ground.phase }, { on := 6, ground := Ground.phase }, { on := 7, ground := Ground.phase }, { on := 8, ground := Ground.phase }, { on := 9, ground := Ground.phase }, { on := 10, ground := Ground.phase }, { on := 11, ground := Ground.phase }], guard := none }) (v := ?_) rfl (by kernel_rfl) (by kernel_rfl) (by kernel_rfl) (fun _ _ _ h => h) (Or.inl ⟨by kernel_rfl, ?_⟩) (by assumption) ?_
              rotate_left 1
              · (intro wS hSw; (try dsimp only at hSw); go_simp; try with_reducible rfl)
              try simp only [Act.put, List.setIfInBounds_toArray, List.set_cons_zero, List.set_cons_succ]
              refine wpAnyH_done (by kernel_rfl) ?_ _
              refine NoPanic.normal ?_
              have L4 := Lib.hid (L3.out.trans (Sa11.2.2.mono L3.out.size))
              have hp4 : w4.heap[wr.heap.size]? = some (.cells #[.bool false, .int .i64 0, .string ss] 50 (0, 0)) := by rw [Sa11.2.2.block wr.heap.size (lt_of_block hp3.out)]; exact hp3.out
              have O4 : Hid (OwnP w4 w.heap.size (.slice au nu cu) L) := O3'.out.all Sa11.2.2
              have hcj := (HCC.out w4 L4.out).2
              clear Sa11 B4 SB b0 D3 hHeld hHeld11 hp3 L3 O3' R3 R3d
              have c3 := cell_of_row _ _ 0 _ _ _ hp4
              have c4 := cell_of_row _ _ 1 _ _ _ hp4
              have c5 := cell_of_row _ _ 2 _ _ _ hp4
              by_cases cd : ((nw : Int) - 1 < 4 ∧ dd.length < s.length)
              · have t1 : decide ((nw : Int) - 1 < 4) = true := by simpa using cd.1
                have t2 : (sd.size : Int) < (ss.size : Int) := by have := HZ.out; rw [HSD.out, HSS.out]; omega
                have HNX : Hid (packL T Bs (j + 1) = L ++ [⟨true, (bn : Int), dd⟩]) := by show _ = _; rw [HNX0.out, HPE.out, if_pos cd]
                have f0 := frozen_of_row _ _ 0 _ _ hp4
                have f1 := frozen_of_row _ _ 1 _ _ hp4
                have f2 := frozen_of_row _ _ 2 _ _ hp4
                have hk5 := three_set hp4 (.bool true) (.int .i64 (bn : Int)) (.string sd)
                have d0 := cell_of_row _ _ 0 _ _ _ hk5
                have d1 := cell_of_row _ _ 1 _ _ _ hk5
                have d2 := cell_of_row _ _ 2 _ _ _ hk5
                have hwr : w.heap.size ≤ wr.heap.size := HWR.out
                have L5 : Below w.heap.size w (((w4.setCell ⟨wr.heap.size, 0, none⟩ (.bool true)).setCell ⟨wr.heap.size, 1, none⟩ (.int .i64 (bn : Int))).setCell ⟨wr.heap.size, 2, none⟩ (.string sd)) :=
                  ((L4.out.setCell (by exact hwr) _).setCell (by exact hwr) _).setCell (by exact hwr) _
                have O5 : OwnP (((w4.setCell ⟨wr.heap.size, 0, none⟩ (.bool true)).setCell ⟨wr.heap.size, 1, none⟩ (.int .i64 (bn : Int))).setCell ⟨wr.heap.size, 2, none⟩ (.string sd)) w.heap.size (.slice au nu cu) L := by
                  have K5 : Keep (fun i => i ≠ wr.heap.size) w4 (((w4.setCell ⟨wr.heap.size, 0, none⟩ (.bool true)).setCell ⟨wr.heap.size, 1, none⟩ (.int .i64 (bn : Int))).setCell ⟨wr.heap.size, 2, none⟩ (.string sd)) :=
                    (((Keep.refl _ _).setCell (p := ⟨wr.heap.size, 0, none⟩) (fun h => h rfl) _).setCell (p := ⟨wr.heap.size, 1, none⟩) (fun h => h rfl) _).setCell (p := ⟨wr.heap.size, 2, none⟩) (fun h => h rfl) _
                  exact owns_keep O4.out K5 (fun g hg => hnb.out g hg)
                obtain ⟨g, gc, w6', hr, O6, B6⟩ := AP.out _ ⟨true, (bn : Int), dd⟩ O5 L5.size
                dsimp only at hr
                rw [← HSD.out] at hr
                have hz1 : (((w4.setCell ⟨wr.heap.size, 0, none⟩ (.bool true)).setCell ⟨wr.heap.size, 1, none⟩ (.int .i64 (bn : Int))).setCell ⟨wr.heap.size, 2, none⟩ (.string sd)).heap.size = w4.heap.size := by simp [World.setCell]
                rw [hz1] at hr
                have L4' := Lib.hid (L5.trans B6)
                have HO4 := Lib.hid O6
                clear O5 L5 O4 L4 B6 O6 hk5 hz1 HZ HNX0 HPE cd AP hnb HCC HSD HSS
                have L4 := L4'
                clear L4'
                go_wp2_with (at_builtin; refine wpList_append_run rfl (.tmp 103) (.tmp 105) 22 22 rfl _ _ _ _ rfl rfl hr ?_)
                clear hr
                go_wp2
                go_roundw
                case rel => exact ⟨j + 1, _, rfl, by omega, by go_num, by rw [HNX.out]; exact HO4.out, L4.out⟩
                case measure => simp [intOf]; omega
              · have hcs : (decide ((nw : Int) - 1 < 4) = true ∧ (ss.size : Int) ≤ (sd.size : Int)) ∨ decide ((nw : Int) - 1 < 4) = false := by
                  by_cases c : (nw : Int) - 1 < 4
                  · left
                    refine ⟨by simpa using c, ?_⟩
                    have h2 := HZ.out
                    rw [HSD.out, HSS.out]
                    have : ¬ dd.length < s.length := fun h => cd ⟨c, h⟩
                    omega
                  · right; simp; omega
                have HNX : Hid (packL T Bs (j + 1) = L ++ [⟨false, 0, s⟩]) := by show _ = _; rw [HNX0.out, HPE.out, if_neg cd]
                obtain ⟨g, gc, w6', hr, O6, B6⟩ := AP.out _ ⟨false, 0, s⟩ O4.out L4.out.size
                dsimp only at hr
                rw [← HSS.out] at hr
                have L4' := Lib.hid (L4.out.trans B6)
                have HO4 := Lib.hid O6
                clear O4 L4 B6 O6 HZ HNX0 HPE cd AP hnb HCC HSD HSS
                have L4 := L4'
                clear L4'
                rcases hcs with ⟨t1, t2⟩ | t1
                all_goals
                  go_wp2_with (at_builtin; refine wpList_append_run rfl (.tmp 103) (.tmp 105) 22 22 rfl _ _ _ _ rfl rfl hr ?_)
                  clear hr
                  go_wp2
                  go_roundw
                  case rel => exact ⟨j + 1, _, rfl, by omega, by go_num, by rw [HNX.out]; exact HO4.out, L4.out⟩
                  case measure => simp [intOf]; omega
            · rw [if_neg hin] at hPE
              have HNX : Hid (packL T Bs (j + 1) = L ++ [⟨false, 0, s⟩]) := by show _ = _; rw [HNX0.out, hPE]
              obtain ⟨g, gc, w6', hr, O6, B6⟩ := AP.out _ ⟨false, 0, s⟩ (O1.out (.cells #[.bool false, .int .i64 0, .string (bs s)] 50)) (L1.out _).size
              dsimp only at hr
              have hz1 : (wr.alloc (.cells #[.bool false, .int .i64 0, .string (bs s)] 50)).heap.size = wr.heap.size + 1 := by simp
              rw [hz1] at hr
              have L4 := Lib.hid ((L1.out _).trans B6)
              have HO4 := Lib.hid O6
              have cb := c1w.out (.cells #[.bool false, .int .i64 0, .string (bs s)] 50)
              have hcs : (decide ((0 : Int) ≤ bb) = true ∧ (j : Int) ≤ bb) ∨ decide ((0 : Int) ≤ bb) = false := by
                by_cases c : 0 ≤ bb
                · left; exact ⟨by simpa using c, by omega⟩
                · right; simpa using c
              generalize bs s = ss at *
              clear B6 O6 hPE hin hPI hLL hs hbb hs4 hLj zs c1 hc0 HC HC2 hO hL L1 O1 AP HNX0 c1w hz1
              rcases hcs with ⟨t1, t2⟩ | t1
              all_goals
                go_wp2_with (at_builtin; refine wpList_append_run rfl (.tmp 103) (.tmp 105) 22 22 rfl _ _ _ _ rfl rfl hr ?_)
                clear hr
                go_wp2
                go_roundw
                case rel => exact ⟨j + 1, _, rfl, by omega, by go_num, by rw [HNX.out]; exact HO4.out, L4.out⟩
                case measure => simp [intOf]; omega
          · have e : j = k := by omega
            subst e
            have HRE : Hid (R.2 = 0 ∧ R.1 = packL T Bs j) := by rw [HF.out]; exact ⟨rfl, rfl⟩
            clear HF HLT
            go_wp2
            go_ret2
            exact ⟨u, by rw [HRE.out.1]; rfl, by rw [HRE.out.2]; exact hO.out, hL.out⟩
end Go.Proofs.Ytekeaoolodmdaaa
