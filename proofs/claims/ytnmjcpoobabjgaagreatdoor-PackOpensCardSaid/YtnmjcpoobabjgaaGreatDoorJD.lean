import Derived.Test.YtnmjcpoobabjgaaGreatDoorY1m
import Derived.Test.YtnmjcpoobabjgaaGreatDoorJC
set_option linter.unusedVariables false
set_option linter.unusedSimpArgs false
/- The document's opening of a pack. -/
namespace Go.Proofs.YtnmjcpoobabjgaaGreatDoor
set_option maxRecDepth 100000
open Go.RowKit Classical
theorem refunseal_l (d : List UInt8) (w : World) (hs : d.length ≤ 1073741824) : Calls Tryz.prog 39 #[.string (bs d)] w fun e w' => e = .returned (.tuple #[.string (bs (unL d)), .bool (okL d)]) ∧ Below w.heap.size w w' := by
  have := Cr.refunseal_any (bs d) w (by rw [bs_size]; exact hs)
  rw [unS_bs, okS_bs] at this
  exact this
theorem rps_full {d : List UInt8} : ∀ (k p i : Nat), (rps d k p i).2.2.2 = true ↔ (rps d k p i).1.length = k
  | 0, p, i => by simp [rps]
  | k + 1, p, i => by
    by_cases c : (rpt d p i).2.2 = 0
    · rw [rps, if_pos c]
      dsimp only
      rw [rps_full k (rpt d p i).2.1 (i + 1), List.length_cons]
      omega
    · rw [rps, if_neg c]; simp
theorem prd_if {d : List UInt8} (h : d.take 4 = mark ∧ (rNum 200 d 4 0).2.2 = 0) : prd d = ((rps d (rNum 200 d 4 0).1 (rNum 200 d 4 0).2.1 0).1, (rps d (rNum 200 d 4 0).1 (rNum 200 d 4 0).2.1 0).2.1, (rps d (rNum 200 d 4 0).1 (rNum 200 d 4 0).2.1 0).2.2.2 && decide (d.length ≤ (rps d (rNum 200 d 4 0).1 (rNum 200 d 4 0).2.1 0).2.2.1)) := by unfold prd; rw [if_pos h]
theorem prd_not {d : List UInt8} (h : ¬ (d.take 4 = mark ∧ (rNum 200 d 4 0).2.2 = 0)) : prd d = ([], [], false) := by unfold prd; rw [if_neg h]
theorem opR_not {d : List UInt8} (h : ¬ (okL d = true ∧ (prd (unL d)).2.2 = true)) : opR d = none := by unfold opR; rw [if_neg h]
theorem opR_if {d : List UInt8} (h : okL d = true) {l : List Pt} {S : List Nat} (h2 : prd (unL d) = (l, S, true)) : opR d = (packR l).map (fun os => (l, S, os)) := by
  unfold opR; rw [h2, if_pos ⟨h, rfl⟩]
theorem OwnG.four1 {α : Type} {e m : Nat} {g : α → Nat → Value} {d0 : α} {w : World} {B : Nat} {v : Value} {l : List α} (h : OwnG e m g d0 w B v l) {p : Nat} (hp : p < B) (a b c d : Value) : OwnG e m g d0 ((((w.setCell ⟨p, 0, none⟩ a).setCell ⟨p, 1, none⟩ b).setCell ⟨p, 2, none⟩ c).setCell ⟨p, 3, none⟩ d) B v l :=
  (((h.setCell (p := ⟨p, 0, none⟩) hp a).setCell (p := ⟨p, 1, none⟩) hp b).setCell (p := ⟨p, 2, none⟩) hp c).setCell (p := ⟨p, 3, none⟩) hp d
set_option maxHeartbeats 8000000 in
theorem qpopen_any (d : List UInt8) (w : World) (hd : d.length ≤ 8000) :
    Calls Tryz.prog 13 #[.string (bs d)] w fun e w' => Below w.heap.size w w' ∧
      ((∃ l S os, opR d = some (l, S, os) ∧ ∃ vl vs vo vd, e = .returned (.tuple #[.agg #[vl, vs, vo, vd], .bool true]) ∧ RowP w' vl l ∧ RowN w' vs S ∧ RowO w' vo os ∧ RowD w' vd (os.map oid)) ∨
       (opR d = none ∧ ∃ al nl cl as_ ns cs ao no co ad nd cd, e = .returned (.tuple #[.agg #[.slice al nl cl, .slice as_ ns cs, .slice ao no co, .slice ad nd cd], .bool false]))) := by
  have CU := Lib.hid (fun W => refunseal_l d W (by omega))
  have hA0 : Below w.heap.size w (w.alloc (.cells #[.slice none 0 0, .slice none 0 0, .slice none 0 0, .slice none 0 0] 32)) := (Below.refl _ _).alloc (Nat.le_refl _) _
  have L0 := Lib.hid hA0
  have BR0 : Hid ((w.alloc (.cells #[.slice none 0 0, .slice none 0 0, .slice none 0 0, .slice none 0 0] 32)).heap[w.heap.size]? = some (.cells #[.slice none 0 0, .slice none 0 0, .slice none 0 0, .slice none 0 0] 32 (0, 0))) := heap_alloc_new _ _
  -- the end: the result's block is written, and told
  have FIN : Hid (∀ (W : World) (a b c e : Value), Below w.heap.size w W → Below w.heap.size w ((((W.setCell ⟨w.heap.size, 0, none⟩ a).setCell ⟨w.heap.size, 1, none⟩ b).setCell ⟨w.heap.size, 2, none⟩ c).setCell ⟨w.heap.size, 3, none⟩ e)) := fun W a b c e h => (((h.setCell (Nat.le_refl _) a).setCell (Nat.le_refl _) b).setCell (Nat.le_refl _) c).setCell (Nat.le_refl _) e
  obtain ⟨R, hR⟩ : ∃ R, R = opR d := ⟨_, rfl⟩
  rw [← hR]
  obtain ⟨u, hu⟩ : ∃ u, u = unL d := ⟨_, rfl⟩
  have hul : u.length ≤ 8000 := by
    rw [hu]
    unfold unL
    split
    · rw [List.length_take]; omega
    · simp
  rw [← hu] at CU
  have CR := Lib.hid (fun W => qpread_any u W (by omega))
  have hz := bs_size u
  obtain ⟨bu, hbu⟩ : ∃ bu, bu = bs u := ⟨_, rfl⟩
  rw [← hbu] at CU CR hz
  cases hq : okL d with
  | false =>
    have HF : Hid (R = none) := by show _ = _; rw [hR]; exact opR_not (fun c => by rw [hq] at c; cases c.1)
    rw [hq] at CU
    generalize bs d = bd at *
    clear hA0 hR hu hul hz hbu hq CR hd
    go_enter Tryz.func13, Tryz.ntmps13
    go_wp2_with fail
    refine (CU.out _).mono ?_
    rintro e w1 ⟨rfl, B1⟩
    have L1 := Lib.hid (L0.out.trans (B1.mono L0.out.size))
    have BR1 : Hid (w1.heap[w.heap.size]? = some (.cells #[.slice none 0 0, .slice none 0 0, .slice none 0 0, .slice none 0 0] 32 (0, 0))) := by show _ = _; rw [B1.block _ (lt_of_block BR0.out)]; exact BR0.out
    clear B1 CU
    have f0 := frozen_of_row _ _ 0 _ _ BR1.out
    have f1 := frozen_of_row _ _ 1 _ _ BR1.out
    have f2 := frozen_of_row _ _ 2 _ _ BR1.out
    have f3 := frozen_of_row _ _ 3 _ _ BR1.out
    have d0 := cell_of_row _ _ 0 _ _ _ BR1.out
    have d1 := cell_of_row _ _ 1 _ _ _ BR1.out
    have d2 := cell_of_row _ _ 2 _ _ _ BR1.out
    have d3 := cell_of_row _ _ 3 _ _ _ BR1.out
    go_wp2
    refine bodyPost_ret (v := .tuple #[.agg #[.slice none 0 0, .slice none 0 0, .slice none 0 0, .slice none 0 0], .bool false]) (results_cell_tmp10 rfl _ _ w.heap.size _ _ _ _ _ rfl rfl (four_set10 BR1.out _ _ _ _) Tryz.underlying32 rfl (by kernel_rfl)) rfl ⟨FIN.out _ _ _ _ _ L1.out, Or.inr ⟨HF.out, _, _, _, _, _, _, _, _, _, _, _, _, rfl⟩⟩
  | true =>
    rw [hq] at CU
    -- what is read, and what comes of it
    have HC : Hid ((¬ (u.take 4 = mark ∧ (rNum 200 u 4 0).2.2 = 0) → R = none) ∧ ((u.take 4 = mark ∧ (rNum 200 u 4 0).2.2 = 0) → ((rps u (rNum 200 u 4 0).1 (rNum 200 u 4 0).2.1 0).1.length ≠ (rNum 200 u 4 0).1 → R = none) ∧ ((rps u (rNum 200 u 4 0).1 (rNum 200 u 4 0).2.1 0).2.2.1 ≠ u.length → R = none) ∧ ((rps u (rNum 200 u 4 0).1 (rNum 200 u 4 0).2.1 0).1.length = (rNum 200 u 4 0).1 → (rps u (rNum 200 u 4 0).1 (rNum 200 u 4 0).2.1 0).2.2.1 = u.length → R = (packR (rps u (rNum 200 u 4 0).1 (rNum 200 u 4 0).2.1 0).1).map (fun os => ((rps u (rNum 200 u 4 0).1 (rNum 200 u 4 0).2.1 0).1, (rps u (rNum 200 u 4 0).1 (rNum 200 u 4 0).2.1 0).2.1, os))) ∧ (rps u (rNum 200 u 4 0).1 (rNum 200 u 4 0).2.1 0).1.length ≤ 200 ∧ (∀ x ∈ (rps u (rNum 200 u 4 0).1 (rNum 200 u 4 0).2.1 0).1, x.t.length ≤ 50000))) := by
      refine ⟨fun h => ?_, fun h => ?_⟩
      · rw [hR]; refine opR_not (fun c => ?_); rw [← hu, prd_not h] at c; cases c.2
      · have l4 : 4 ≤ u.length := by have := congrArg List.length h.1; rw [List.length_take] at this; simp [mark] at this; omega
        have hp : (rNum 200 u 4 0).2.1 ≤ u.length := rNum_le 200 u 4 0 l4
        have hn := (num_value 200 u 4 (by decide)).1
        have hl := rps_len (d := u) (rNum 200 u 4 0).1 (rNum 200 u 4 0).2.1 0 hp
        refine ⟨fun h2 => ?_, fun h2 => ?_, fun h2 h3 => ?_, by omega, fun x hx => by have := (hl.2.2.1 x hx).2; omega⟩
        · rw [hR]
          refine opR_not (fun c => ?_)
          rw [← hu, prd_if h] at c
          have c2 := c.2
          dsimp only at c2
          rw [Bool.and_eq_true] at c2
          exact h2 ((rps_full _ _ _).1 c2.1)
        · rw [hR]
          refine opR_not (fun c => ?_)
          rw [← hu, prd_if h] at c
          have c2 := c.2
          dsimp only at c2
          rw [Bool.and_eq_true, decide_eq_true_eq] at c2
          have := hl.2.2.2
          omega
        · rw [hR]
          refine opR_if hq ?_
          rw [← hu, prd_if h, (rps_full _ _ _).2 h2, h3]
          simp
    obtain ⟨Q, hQ⟩ : ∃ Q : Prop, Q = (u.take 4 = mark ∧ (rNum 200 u 4 0).2.2 = 0) := ⟨_, rfl⟩
    obtain ⟨n, hn⟩ : ∃ n, n = (rNum 200 u 4 0).1 := ⟨_, rfl⟩
    obtain ⟨q, hq2⟩ : ∃ q, q = rps u (rNum 200 u 4 0).1 (rNum 200 u 4 0).2.1 0 := ⟨_, rfl⟩
    rw [← hQ, ← hq2, ← hn] at HC CR
    obtain ⟨L, S, at_, bq⟩ := q
    dsimp only at HC CR
    generalize bs d = bd at *
    have HZ : Hid ((bu.size : Int) = (u.length : Int)) := by show _ = _; omega
    obtain ⟨ul, hul2⟩ : ∃ ul, ul = u.length := ⟨_, rfl⟩
    rw [← hul2] at HC HZ
    clear hA0 hR hu hul hz hbu hq hd hQ hn hq2 hul2
    go_enter Tryz.func13, Tryz.ntmps13
    go_wp2_with fail
    refine (CU.out _).mono ?_
    rintro e w1 ⟨rfl, B1⟩
    have L1 := Lib.hid (L0.out.trans (B1.mono L0.out.size))
    have BR1 : Hid (w1.heap[w.heap.size]? = some (.cells #[.slice none 0 0, .slice none 0 0, .slice none 0 0, .slice none 0 0] 32 (0, 0))) := by show _ = _; rw [B1.block _ (lt_of_block BR0.out)]; exact BR0.out
    clear B1 CU L0 BR0
    go_wp2_with fail
    refine (CR.out _).mono ?_
    rintro e w2 ⟨B2, ⟨hnQ, rfl⟩ | ⟨hQ, vl, vs, rfl, rl, rs⟩⟩
    · have L2 := Lib.hid (L1.out.trans (B2.mono L1.out.size))
      have BR2 : Hid (w2.heap[w.heap.size]? = some (.cells #[.slice none 0 0, .slice none 0 0, .slice none 0 0, .slice none 0 0] 32 (0, 0))) := by show _ = _; rw [B2.block _ (lt_of_block BR1.out)]; exact BR1.out
      have HF := Lib.hid (HC.out.1 hnQ)
      clear B2 CR L1 BR1 HC hnQ
      have f0 := frozen_of_row _ _ 0 _ _ BR2.out
      have f1 := frozen_of_row _ _ 1 _ _ BR2.out
      have f2 := frozen_of_row _ _ 2 _ _ BR2.out
      have f3 := frozen_of_row _ _ 3 _ _ BR2.out
      have d0 := cell_of_row _ _ 0 _ _ _ BR2.out
      have d1 := cell_of_row _ _ 1 _ _ _ BR2.out
      have d2 := cell_of_row _ _ 2 _ _ _ BR2.out
      have d3 := cell_of_row _ _ 3 _ _ _ BR2.out
      go_wp2
      refine bodyPost_ret (v := .tuple #[.agg #[.slice none 0 0, .slice none 0 0, .slice none 0 0, .slice none 0 0], .bool false]) (results_cell_tmp10 rfl _ _ w.heap.size _ _ _ _ _ rfl rfl (four_set10 BR2.out _ _ _ _) Tryz.underlying32 rfl (by kernel_rfl)) rfl ⟨FIN.out _ _ _ _ _ L2.out, Or.inr ⟨HF.out, _, _, _, _, _, _, _, _, _, _, _, _, rfl⟩⟩
    · have L2 := Lib.hid (L1.out.trans (B2.mono L1.out.size))
      have BR2 : Hid (w2.heap[w.heap.size]? = some (.cells #[.slice none 0 0, .slice none 0 0, .slice none 0 0, .slice none 0 0] 32 (0, 0))) := by show _ = _; rw [B2.block _ (lt_of_block BR1.out)]; exact BR1.out
      obtain ⟨g1, g2, g3, g4, g5⟩ := HC.out.2 hQ
      obtain ⟨al, cl, rfl⟩ := RowG.len rl.row
      obtain ⟨as_, ns, cs, rfl⟩ : ∃ ad n cap, vs = .slice ad n cap := by
        obtain ⟨x1, x2, x3⟩ := RowG.len rs.row
        exact ⟨_, _, _, x3⟩
      have HL := Lib.hid rl
      have HSS := Lib.hid rs
      have zz := HZ.out
      have HW1 : Hid (w.heap.size < w1.heap.size) := lt_of_block BR1.out
      have HW2 : Hid (w.heap.size < w2.heap.size) := lt_of_block BR2.out
      obtain ⟨k, hk⟩ : ∃ k, k = L.length := ⟨_, rfl⟩
      rw [← hk] at g1 g3 g4 HL ⊢
      have HK := Lib.hid hk
      clear B2 CR L1 BR1 HC hQ rl rs hk
      have f0 := frozen_of_row _ _ 0 _ _ BR2.out
      have f1 := frozen_of_row _ _ 1 _ _ BR2.out
      have f2 := frozen_of_row _ _ 2 _ _ BR2.out
      have f3 := frozen_of_row _ _ 3 _ _ BR2.out
      have d0 := cell_of_row _ _ 0 _ _ _ BR2.out
      have d1 := cell_of_row _ _ 1 _ _ _ BR2.out
      have d2 := cell_of_row _ _ 2 _ _ _ BR2.out
      have d3 := cell_of_row _ _ 3 _ _ _ BR2.out
      by_cases c1 : k = n
      · by_cases c2 : at_ = ul
        · have HO := Lib.hid (g3 c1 c2)
          have CO : Hid (∀ W, RowP W (.slice al k cl) L → _) := Lib.hid (fun W h => qof_any (w := W) h (by rw [← HK.out]; omega) g5)
          subst c1
          subst c2
          have t2 : (at_ : Int) = (bu.size : Int) := by omega
          clear g1 g2 g3 g4 g5 f0 f1 f2 f3 d0 d1 d2 d3 zz
          go_wp2_with fail
          refine (CO.out _ HL.out.row).mono ?_
          rintro e w3 ⟨B3, ⟨os, hos, vo, vd, rfl, ro, rd⟩ | ⟨hos, ao, no, co, ad, nd, cd, rfl⟩⟩
          · obtain ⟨ao, no, co, rfl⟩ : ∃ ad n cap, vo = .slice ad n cap := by
              obtain ⟨x1, x2, x3⟩ := RowG.len ro.row
              exact ⟨_, _, _, x3⟩
            obtain ⟨ad, nd, cd, rfl⟩ : ∃ ad n cap, vd = .slice ad n cap := by
              obtain ⟨x1, x2, x3⟩ := RowG.len rd.row
              exact ⟨_, _, _, x3⟩
            have L3 := Lib.hid (L2.out.trans (B3.mono L2.out.size))
            have BR3 : Hid (w3.heap[w.heap.size]? = some (.cells #[.slice none 0 0, .slice none 0 0, .slice none 0 0, .slice none 0 0] 32 (0, 0))) := by show _ = _; rw [B3.block _ (lt_of_block BR2.out)]; exact BR2.out
            have HF : Hid (R = some (L, S, os)) := by show _ = _; rw [HO.out, hos]; rfl
            have RO := Lib.hid ro
            have RD := Lib.hid rd
            have RL := Lib.hid (OwnG.all HL.out B3)
            have RS := Lib.hid (OwnG.all HSS.out B3)
            -- the world behind the pack's own block, and the result's
            have hA : ∀ x, Below w3.heap.size w3 (w3.alloc (.cells x 32)) := fun x => (Below.refl _ _).alloc (Nat.le_refl _) _
            have BA : Hid (∀ x, (w3.alloc (.cells x 32)).heap[w.heap.size]? = some (.cells #[.slice none 0 0, .slice none 0 0, .slice none 0 0, .slice none 0 0] 32 (0, 0))) := fun x => by rw [(hA x).block _ (lt_of_block BR3.out)]; exact BR3.out
            have KR : Hid (∀ x, Below w.heap.size w (w3.alloc (.cells x 32))) := fun x => L3.out.trans ((hA x).mono L3.out.size)
            have ROK : Hid (∀ x a b c e, RowP (((((w3.alloc (.cells x 32)).setCell ⟨w.heap.size, 0, none⟩ a).setCell ⟨w.heap.size, 1, none⟩ b).setCell ⟨w.heap.size, 2, none⟩ c).setCell ⟨w.heap.size, 3, none⟩ e) (.slice al k cl) L ∧ RowN (((((w3.alloc (.cells x 32)).setCell ⟨w.heap.size, 0, none⟩ a).setCell ⟨w.heap.size, 1, none⟩ b).setCell ⟨w.heap.size, 2, none⟩ c).setCell ⟨w.heap.size, 3, none⟩ e) (.slice as_ ns cs) S ∧ RowO (((((w3.alloc (.cells x 32)).setCell ⟨w.heap.size, 0, none⟩ a).setCell ⟨w.heap.size, 1, none⟩ b).setCell ⟨w.heap.size, 2, none⟩ c).setCell ⟨w.heap.size, 3, none⟩ e) (.slice ao no co) os ∧ RowD (((((w3.alloc (.cells x 32)).setCell ⟨w.heap.size, 0, none⟩ a).setCell ⟨w.heap.size, 1, none⟩ b).setCell ⟨w.heap.size, 2, none⟩ c).setCell ⟨w.heap.size, 3, none⟩ e) (.slice ad nd cd) (os.map oid)) := fun x a b c e =>
              ⟨((OwnG.all RL.out (hA x)).four1 HW1.out a b c e).row, ((OwnG.all RS.out (hA x)).four1 HW1.out a b c e).row, ((OwnG.all RO.out (hA x)).four1 HW2.out a b c e).row, ((OwnG.all RD.out (hA x)).four1 HW2.out a b c e).row⟩
            clear RO RD RL RS ro rd
            clear B3 CO BR2 L2 hA
            have f0 := fun x => frozen_of_row _ _ 0 _ _ (BA.out x)
            have f1 := fun x => frozen_of_row _ _ 1 _ _ (BA.out x)
            have f2 := fun x => frozen_of_row _ _ 2 _ _ (BA.out x)
            have f3 := fun x => frozen_of_row _ _ 3 _ _ (BA.out x)
            have d0 := fun x => cell_of_row _ _ 0 _ _ _ (BA.out x)
            have d1 := fun x => cell_of_row _ _ 1 _ _ _ (BA.out x)
            have d2 := fun x => cell_of_row _ _ 2 _ _ _ (BA.out x)
            have d3 := fun x => cell_of_row _ _ 3 _ _ _ (BA.out x)
            go_wp2
            refine bodyPost_ret (v := .tuple #[.agg #[.slice al k cl, .slice as_ ns cs, .slice ao no co, .slice ad nd cd], .bool true]) (results_cell_tmp10 rfl _ _ w.heap.size _ _ _ _ _ rfl rfl (four_set10 (BA.out _) _ _ _ _) Tryz.underlying32 rfl (by kernel_rfl)) rfl ⟨FIN.out _ _ _ _ _ (KR.out _), Or.inl ⟨L, S, os, HF.out, _, _, _, _, rfl, ROK.out _ _ _ _ _⟩⟩
          · skip
            have L3 := Lib.hid (L2.out.trans (B3.mono L2.out.size))
            have BR3 : Hid (w3.heap[w.heap.size]? = some (.cells #[.slice none 0 0, .slice none 0 0, .slice none 0 0, .slice none 0 0] 32 (0, 0))) := by show _ = _; rw [B3.block _ (lt_of_block BR2.out)]; exact BR2.out
            have HF : Hid (R = none) := by show _ = _; rw [HO.out, hos]; rfl
            have hA : ∀ x, Below w3.heap.size w3 (w3.alloc (.cells x 32)) := fun x => (Below.refl _ _).alloc (Nat.le_refl _) _
            have BA : Hid (∀ x, (w3.alloc (.cells x 32)).heap[w.heap.size]? = some (.cells #[.slice none 0 0, .slice none 0 0, .slice none 0 0, .slice none 0 0] 32 (0, 0))) := fun x => by rw [(hA x).block _ (lt_of_block BR3.out)]; exact BR3.out
            have KR : Hid (∀ x, Below w.heap.size w (w3.alloc (.cells x 32))) := fun x => L3.out.trans ((hA x).mono L3.out.size)
            clear B3 CO BR2 L2 hA
            have f0 := fun x => frozen_of_row _ _ 0 _ _ (BA.out x)
            have f1 := fun x => frozen_of_row _ _ 1 _ _ (BA.out x)
            have f2 := fun x => frozen_of_row _ _ 2 _ _ (BA.out x)
            have f3 := fun x => frozen_of_row _ _ 3 _ _ (BA.out x)
            have d0 := fun x => cell_of_row _ _ 0 _ _ _ (BA.out x)
            have d1 := fun x => cell_of_row _ _ 1 _ _ _ (BA.out x)
            have d2 := fun x => cell_of_row _ _ 2 _ _ _ (BA.out x)
            have d3 := fun x => cell_of_row _ _ 3 _ _ _ (BA.out x)
            go_wp2
            refine bodyPost_ret (v := .tuple #[.agg #[.slice al k cl, .slice as_ ns cs, .slice ao no co, .slice ad nd cd], .bool false]) (results_cell_tmp10 rfl _ _ w.heap.size _ _ _ _ _ rfl rfl (four_set10 (BA.out _) _ _ _ _) Tryz.underlying32 rfl (by kernel_rfl)) rfl ⟨FIN.out _ _ _ _ _ (KR.out _), Or.inr ⟨HF.out, _, _, _, _, _, _, _, _, _, _, _, _, rfl⟩⟩
        · have HF := Lib.hid (g2 c2)
          have t2 : ¬ (at_ : Int) = (bu.size : Int) := by omega
          subst c1
          clear g1 g2 g3 g4 g5 zz
          go_wp2
          refine bodyPost_ret (v := .tuple #[.agg #[.slice none 0 0, .slice none 0 0, .slice none 0 0, .slice none 0 0], .bool false]) (results_cell_tmp10 rfl _ _ w.heap.size _ _ _ _ _ rfl rfl (four_set10 BR2.out _ _ _ _) Tryz.underlying32 rfl (by kernel_rfl)) rfl ⟨FIN.out _ _ _ _ _ L2.out, Or.inr ⟨HF.out, _, _, _, _, _, _, _, _, _, _, _, _, rfl⟩⟩
      · have HF := Lib.hid (g1 c1)
        have t1 : ¬ (k : Int) = (n : Int) := by omega
        clear g1 g2 g3 g4 g5 zz
        go_wp2
        refine bodyPost_ret (v := .tuple #[.agg #[.slice none 0 0, .slice none 0 0, .slice none 0 0, .slice none 0 0], .bool false]) (results_cell_tmp10 rfl _ _ w.heap.size _ _ _ _ _ rfl rfl (four_set10 BR2.out _ _ _ _) Tryz.underlying32 rfl (by kernel_rfl)) rfl ⟨FIN.out _ _ _ _ _ L2.out, Or.inr ⟨HF.out, _, _, _, _, _, _, _, _, _, _, _, _, rfl⟩⟩
end Go.Proofs.YtnmjcpoobabjgaaGreatDoor
