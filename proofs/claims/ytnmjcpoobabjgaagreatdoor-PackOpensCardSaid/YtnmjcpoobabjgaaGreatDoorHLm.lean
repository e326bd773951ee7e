import Derived.Test.YtnmjcpoobabjgaaGreatDoorHH
import Derived.Deep.Cut
import Derived.Test.YtnmjcpoobabjgaaGreatDoorELm
set_option linter.unusedVariables false
set_option linter.unusedSimpArgs false
/- The reference's way from a part to a plain one. -/
namespace Go.Proofs.YtnmjcpoobabjgaaGreatDoor
set_option maxRecDepth 100000
open Go.RowKit
def ql (l : List Pt) : Nat → Nat → List Nat × Int
 | 0, _ => ([], 11)
 | k + 1, at_ => if fm (l.getD at_ zp) at_ then (if (l.getD at_ zp).d then (if (ql l k (l.getD at_ zp).b.toNat).2 = 0 then (at_ :: (ql l k (l.getD at_ zp).b.toNat).1, 0) else ([], (ql l k (l.getD at_ zp).b.toNat).2)) else ([at_], 0)) else ([], 2)
theorem ql_err (l : List Pt) (k at_ : Nat) : (ql l k at_).2 ≠ 0 → (ql l k at_).1 = [] := by
 cases k with
 | zero => intro _; rfl
 | succ k =>
  unfold ql
  split
  ·split
   ·split
    ·simp
    ·simp
   ·simp
  ·simp
theorem ql_wrong {l : List Pt} {k at_ : Nat} (h : fm (l.getD at_ zp) at_ = false) : ql l (k + 1) at_ = ([], 2) := by unfold ql; rw [h]; rfl
theorem ql_plain {l : List Pt} {k at_ : Nat} (h : fm (l.getD at_ zp) at_ = true) (hd : (l.getD at_ zp).d = false) : ql l (k + 1) at_ = ([at_], 0) := by
 unfold ql; rw [if_pos h, if_neg (by rw [hd]; decide)]
theorem ql_delta {l : List Pt} {k at_ : Nat} (h : fm (l.getD at_ zp) at_ = true) (hd : (l.getD at_ zp).d = true) (way : List Nat) : pre way (ql l (k + 1) at_) = pre (way ++ [at_]) (ql l k (l.getD at_ zp).b.toNat) := by
 have e : ql l (k + 1) at_ = if (ql l k (l.getD at_ zp).b.toNat).2 = 0 then (at_ :: (ql l k (l.getD at_ zp).b.toNat).1, 0) else ([], (ql l k (l.getD at_ zp).b.toNat).2) := by
  conv => lhs; unfold ql
  rw [if_pos h, if_pos hd]
 rw [e]
 unfold pre
 generalize ql l k (l.getD at_ zp).b.toNat = r
 by_cases c : r.2 = 0
 ·rw [if_pos c, if_pos c, if_pos rfl, List.append_assoc]; rfl
 ·rw [if_neg c, if_neg c, if_neg c]
/- where all ahead have bases that may be, both ways are the same -/
theorem ql_al {l : List Pt} : ∀ (k at_ : Nat), (∀ j, j < at_ → fm (l.getD j zp) j = true) → ql l (k + 1) at_ = al l (k + 1) at_ := by
 intro k
 induction k with
 | zero =>
  intro at_ h
  by_cases hf : fm (l.getD at_ zp) at_ = true
  ·by_cases hd : (l.getD at_ zp).d = true
   ·have h3 := fm_delta hf hd
    have e1 := ql_delta (k := 0) hf hd []
    have e2 := al_delta (k := 0) hf hd []
    rw [pre_nil (ql_err l _ _)] at e1
    rw [pre_nil (al_err l _ _)] at e2
    rw [e1, e2, al_deep (h _ h3.2.2)]
    rfl
   ·have hd' : (l.getD at_ zp).d = false := by simpa using hd
    rw [ql_plain hf hd', al_plain hf hd']
  ·have hf' : fm (l.getD at_ zp) at_ = false := by simpa using hf
   rw [ql_wrong hf', al_wrong hf']
 | succ k ih =>
  intro at_ h
  by_cases hf : fm (l.getD at_ zp) at_ = true
  ·by_cases hd : (l.getD at_ zp).d = true
   ·have h3 := fm_delta hf hd
    have e1 := ql_delta (k := k + 1) hf hd []
    have e2 := al_delta (k := k + 1) hf hd []
    rw [pre_nil (ql_err l _ _)] at e1
    rw [pre_nil (al_err l _ _)] at e2
    rw [e1, e2, ih _ fun j hj => h j (by omega)]
   ·have hd' : (l.getD at_ zp).d = false := by simpa using hd
    rw [ql_plain hf hd', al_plain hf hd']
  ·have hf' : fm (l.getD at_ zp) at_ = false := by simpa using hf
   rw [ql_wrong hf', al_wrong hf']
theorem ql_ok {l : List Pt} : ∀ (k at_ : Nat), (ql l k at_).2 = 0 → al l k at_ = ql l k at_ := by
 intro k
 induction k with
 | zero => intro at_ h; unfold ql at h; simp at h
 | succ k ih =>
  intro at_ h
  by_cases hf : fm (l.getD at_ zp) at_ = true
  ·by_cases hd : (l.getD at_ zp).d = true
   ·have e1 := ql_delta (k := k) hf hd []
    have e2 := al_delta (k := k) hf hd []
    rw [pre_nil (ql_err l _ _)] at e1
    rw [pre_nil (al_err l _ _)] at e2
    rw [e1] at h ⊢
    unfold pre at h
    by_cases c : (ql l k (l.getD at_ zp).b.toNat).2 = 0
    ·rw [e2, ih _ c]
    ·rw [if_neg c] at h; exact absurd h c
   ·have hd' : (l.getD at_ zp).d = false := by simpa using hd
    rw [ql_plain hf hd', al_plain hf hd']
  ·rw [ql_wrong (by simpa using hf)] at h
   simp at h
def qwayR (l : List Pt) (at_ : Int) : List Nat × Int := if 200 < l.length ∨ at_ < 0 ∨ (l.length : Int) ≤ at_ then ([], 1) else ql l 5 at_.toNat
theorem qwayR_ok {l : List Pt} {at_ : Int} (h : (qwayR l at_).2 = 0) : wayR l at_ = qwayR l at_ := by
 unfold qwayR wayR at *
 split
 ·rfl
 ·rename_i c; rw [if_neg c] at h; exact ql_ok 5 _ h
set_option maxHeartbeats 4000000 in
theorem qpath_any {l : List Pt} {v : Value} (at_ : Int) {w : World} (hv : RowP w v l) (hs : l.length ≤ 100000) :
  Calls Tryz.prog 75 #[v, .int .i64 at_] w fun e w' => ∃ u, e = .returned (.tuple #[u, .int .i64 (qwayR l at_).2]) ∧ OwnN w' w.heap.size u (qwayR l at_).1 ∧ Below w.heap.size w w' := by
 have H0 : Hid (RowP w v l) := hv
 obtain ⟨ad, cap, rfl⟩ := RowG.len hv
 clear hv
 obtain ⟨R, hR⟩ : ∃ R, R = qwayR l at_ := ⟨_, rfl⟩
 rw [← hR]
 by_cases c : 200 < l.length ∨ at_ < 0 ∨ (l.length : Int) ≤ at_
 ·have hR1 : Hid (R = ([], 1)) := by show _ = _; rw [hR]; unfold qwayR; rw [if_pos c]
  clear hR
  have hcs : (200 : Int) < (l.length : Int) ∨ (¬ (200 : Int) < (l.length : Int) ∧ at_ < 0) ∨ (¬ (200 : Int) < (l.length : Int) ∧ ¬ at_ < 0 ∧ (l.length : Int) ≤ at_) := by omega
  clear c
  rcases hcs with c1 | ⟨c1, c2⟩ | ⟨c1, c2, c3⟩
  all_goals
   go_enter Tryz.func75, Tryz.ntmps75
   go_wp2
   go_ret2
   exact ⟨.slice none 0 0, by rw [hR1.out]; rfl, by rw [hR1.out]; exact OwnG.nil _ _ _ _ _ _, Below.refl _ _⟩
 ·have hR1 : Hid (R = ql l 5 at_.toNat) := by show _ = _; rw [hR]; unfold qwayR; rw [if_neg c]
  clear hR
  have c1 : ¬ (200 : Int) < (l.length : Int) := by omega
  have c2 : ¬ at_ < 0 := by omega
  have c3 : ¬ (l.length : Int) ≤ at_ := by omega
  obtain ⟨a0, rfl⟩ : ∃ a0 : Nat, at_ = (a0 : Int) := ⟨at_.toNat, by omega⟩
  have HA : Hid (a0 < l.length) := by show _ < _; omega
  have HR0 : Hid (R = pre [] (ql l (5 - ([] : List Nat).length) a0)) := by show _ = _; rw [pre_nil (ql_err l _ _)]; exact hR1.out
  obtain ⟨N, hN⟩ : ∃ N, N = l.length := ⟨_, rfl⟩
  rw [← hN] at c1 c3 H0 HA ⊢
  have HN := Lib.hid hN
  clear c hR1 hN hs
  go_enter Tryz.func75, Tryz.ntmps75
  go_wp2
  go_loopw [1, 6, 7] (fun x a i wr => ∃ (k : Nat) (way : List Nat) (u : Value) (n : Nat), u = a ∧ x = .int .i64 (k : Int) ∧ i = .int .i64 (n : Int) ∧ n ≤ 5 ∧ k < N ∧ Hid (n = way.length) ∧ Hid (OwnN wr w.heap.size u way) ∧ Hid (R = pre way (ql l (5 - way.length) k)) ∧ Hid (Below w.heap.size w wr)) (fun _ _ i _ => 6 - (intOf i).toNat)
  case atStart => exact ⟨a0, [], _, 0, rfl, rfl, rfl, by decide, HA.out, rfl, OwnG.nil _ _ _ _ _ _, HR0.out, Below.refl _ _⟩
  case round =>
   obtain ⟨k, way, u, n, rfl, rfl, rfl, hn5, hk, hn, hO, hR, hB⟩ := hrel
   clear c1 c2 c3 HA HR0
   by_cases h5 : n = 5
   ·have HE : Hid (R = ([], 11)) := by show _ = _; rw [hR.out, ← hn.out, h5]; rfl
    have t5 : ((n : Int) == 5) = true := by simp; omega
    have t6 : (n : Int) < 6 := by omega
    clear hR hO h5
    go_wp2
    go_ret2
    exact ⟨.slice none 0 0, by rw [HE.out]; rfl, by rw [HE.out]; exact OwnG.nil _ _ _ _ _ _, hB.out⟩
   ·have t5 : ((n : Int) == 5) = false := by simp; omega
    have t6 : (n : Int) < 6 := by omega
    have yk : (k : Int) < (N : Int) := by omega
    have y0 : (0 : Int) ≤ (k : Int) := by omega
    have w5 : IntKind.i64.wrap ((n : Int) + 1) = (n : Int) + 1 := IntWalk.i64_in _ (by omega)
    obtain ⟨ad', cap', e0, hc⟩ := RowP.cells H0.out
    cases e0
    obtain ⟨b, o, rfl, hbl, hc0, hc1, hc2⟩ := hc k (by rw [← HN.out]; exact hk)
    obtain ⟨x, hx⟩ : ∃ x, x = l.getD k zp := ⟨_, rfl⟩
    rw [← hx] at hc0 hc1 hc2
    have HX := Lib.hid hx
    obtain ⟨ao, no, co, hus⟩ : ∃ ao no co, u = .slice ao no co := by
     obtain ⟨x1, x2, x3⟩ := RowG.len hO.out.row
     exact ⟨_, _, _, x3⟩
    subst hus
    obtain ⟨gb, gc, w2, hrun, O2, B2⟩ := app_n k hO.out hB.out.size (by have := hn.out; omega)
    have L2 := Lib.hid (hB.out.trans B2)
    have HO2 := Lib.hid O2
    have g0 : w2.cell? ⟨b, o + k * 3, none⟩ = some (.bool x.d) := by rw [L2.out.cell (p := ⟨b, o + k * 3, none⟩) hbl]; exact hc0
    have g1 : w2.cell? ⟨b, o + k * 3 + 1, none⟩ = some (.int .i64 x.b) := by rw [L2.out.cell (p := ⟨b, o + k * 3 + 1, none⟩) hbl]; exact hc1
    have N2 : Hid ((way ++ [k]).length = way.length + 1) := by show _ = _; simp
    rw [← hn.out] at hrun HO2
    clear hc hc0 hc1 hc2 hx O2 B2 hO hB
    have HF : Hid (fm x k = false → R = ([], 2)) := fun h => by
     rw [hR.out, ← hn.out, show 5 - n = (4 - n) + 1 by omega, ql_wrong (by rw [← HX.out]; exact h)]; rfl
    have HP : Hid (fm x k = true → x.d = false → R = (way ++ [k], 0)) := fun h hd => by
     rw [hR.out, ← hn.out, show 5 - n = (4 - n) + 1 by omega, ql_plain (by rw [← HX.out]; exact h) (by rw [← HX.out]; exact hd)]; rfl
    have HD : Hid (fm x k = true → x.d = true → R = pre (way ++ [k]) (ql l (5 - (way ++ [k]).length) x.b.toNat)) := fun h hd => by
     rw [hR.out, N2.out, ← hn.out, show 5 - n = (5 - (n + 1)) + 1 by omega, ql_delta (by rw [← HX.out]; exact h) (by rw [← HX.out]; exact hd), ← HX.out]
    obtain ⟨d, xb, t⟩ := x
    dsimp only at g0 g1
    clear hR HX
    cases d with
    | false =>
     by_cases hb0 : xb = 0
     ·have HE := Lib.hid (HP.out (by unfold fm; simp [hb0]) rfl)
      have t7 : (xb == 0) = true := by simpa using hb0
      clear HF HP HD hb0
      go_wp2_with (at_builtin; refine wpList_append_run rfl (.tmp 27) (.tmp 29) 28 28 rfl _ _ _ _ rfl rfl hrun ?_)
      clear hrun
      go_wp2
      go_ret2
      exact ⟨.slice (some ⟨gb, 0, none⟩) (n + 1) gc, by rw [HE.out]; rfl, by rw [HE.out]; exact HO2.out, L2.out⟩
     ·have HE := Lib.hid (HF.out (by unfold fm; simp [hb0]))
      have t7 : (xb == 0) = false := by simpa using hb0
      clear HF HP HD hb0
      go_wp2_with (at_builtin; refine wpList_append_run rfl (.tmp 27) (.tmp 29) 28 28 rfl _ _ _ _ rfl rfl hrun ?_)
      clear hrun
      go_wp2
      go_ret2
      exact ⟨.slice none 0 0, by rw [HE.out]; rfl, by rw [HE.out]; exact OwnG.nil _ _ _ _ _ _, L2.out⟩
    | true =>
     by_cases hb0 : xb < 0
     ·have HE := Lib.hid (HF.out (by unfold fm; simp; omega))
      have t7 : decide (xb < 0) = true := by simpa using hb0
      clear HF HP HD
      go_wp2_with (at_builtin; refine wpList_append_run rfl (.tmp 27) (.tmp 29) 28 28 rfl _ _ _ _ rfl rfl hrun ?_)
      clear hrun
      go_wp2
      go_ret2
      exact ⟨.slice none 0 0, by rw [HE.out]; rfl, by rw [HE.out]; exact OwnG.nil _ _ _ _ _ _, L2.out⟩
     ·have t7 : decide (xb < 0) = false := by simpa using hb0
      by_cases hbk : (k : Int) ≤ xb
      ·have HE := Lib.hid (HF.out (by unfold fm; simp; omega))
       clear HF HP HD
       go_wp2_with (at_builtin; refine wpList_append_run rfl (.tmp 27) (.tmp 29) 28 28 rfl _ _ _ _ rfl rfl hrun ?_)
       clear hrun
       go_wp2
       go_ret2
       exact ⟨.slice none 0 0, by rw [HE.out]; rfl, by rw [HE.out]; exact OwnG.nil _ _ _ _ _ _, L2.out⟩
      ·obtain ⟨xn, rfl⟩ : ∃ xn : Nat, xb = (xn : Int) := ⟨xb.toNat, by omega⟩
       have HE := Lib.hid (HD.out (by unfold fm; simp; omega) rfl)
       have t8 : (xn : Int) < (k : Int) := by omega
       have HL : Hid (xn < l.length) := by show _ < _; omega
       clear HF HP HD
       go_wp2_with (at_builtin; refine wpList_append_run rfl (.tmp 27) (.tmp 29) 28 28 rfl _ _ _ _ rfl rfl hrun ?_)
       clear hrun
       go_wp2
       go_roundw
       case rel => exact ⟨xn, way ++ [k], _, n + 1, rfl, rfl, by go_num, by omega, HL.out, by show _ = _; rw [N2.out, hn.out], HO2.out, HE.out, L2.out⟩
       case measure => simp [intOf]; omega
end Go.Proofs.YtnmjcpoobabjgaaGreatDoor
/- The reference's text of a part. -/
namespace Go.Proofs.YtnmjcpoobabjgaaGreatDoor
set_option maxRecDepth 100000
open Go.RowKit
def qtextR (l : List Pt) (at_ : Int) : List UInt8 × Int := if (qwayR l at_).2 = 0 then txq l at_.toNat else ([], (qwayR l at_).2)
set_option maxHeartbeats 8000000 in
theorem qtext_any9 {l : List Pt} {v : Value} (at_ : Int) {w : World} (hv : RowP w v l) (hs : l.length ≤ 100000) (ht : ∀ x ∈ l, x.t.length ≤ 50000) :
    Calls Tryz.prog 50 #[v, .int .i64 at_] w fun e w' => e = .returned (.tuple #[.string (bs (qtextR l at_).1), .int .i64 (qtextR l at_).2]) ∧ Below w.heap.size w w' := by
  have C1 : Hid (∀ W, RowP W v l → _) := Lib.hid (fun W h => qpath_any at_ (w := W) h hs)
  obtain ⟨ad2, cap2, rfl⟩ := RowG.len hv
  have HV := Lib.hid hv
  obtain ⟨way, er, hR⟩ : ∃ way er, qwayR l at_ = (way, er) := ⟨_, _, rfl⟩
  unfold qtextR
  rw [hR] at C1 ⊢
  dsimp only at C1 ⊢
  by_cases c : er = 0
  · subst c
    rw [if_pos rfl]
    have hWR : wayR l at_ = (way, 0) := by rw [qwayR_ok (by rw [hR])]; exact hR
    have hW := wayR_way (l := l) (at_ := at_) (by rw [hWR])
    rw [hWR] at hW
    have HWay := Lib.hid hW.2.2.2.1
    have HN5 := Lib.hid hW.2.2.2.2.2
    have HPOS := Lib.hid hW.2.2.2.1.pos
    have HTX : Hid (txq l at_.toNat = txq l (way.getD 0 0)) := by
      show _ = _
      have := hW.2.2.2.2.1
      dsimp only at this
      cases way with
      | nil => simp at this
      | cons a r => simp only [List.head?_cons, Option.some.injEq] at this; subst this; rfl
    clear hR hW hWR hv
    rw [HTX.out]
    obtain ⟨R, hR⟩ : ∃ R, R = txq l (way.getD 0 0) := ⟨_, rfl⟩
    rw [← hR]
    have HR := Lib.hid hR
    clear hR HTX
    go_enter Tryz.func50, Tryz.ntmps50
    go_wp2_with fail
    refine (C1.out _ HV.out).mono ?_
    rintro e w1 ⟨u, rfl, hO, B1⟩
    have L1 := Lib.hid B1
    have HO := Lib.hid hO
    obtain ⟨ao, n, co, hn, rfl⟩ : ∃ ao n co, n = way.length ∧ u = .slice ao n co := by
      obtain ⟨x1, x2, x3⟩ := RowG.len hO.row
      exact ⟨_, _, _, rfl, x3⟩
    have HN := Lib.hid hn
    have n5 : n ≤ 5 := by have := HN5.out; omega
    have w5 : IntKind.i64.wrap ((n : Int) - 1) = (n : Int) - 1 := IntWalk.i64_in _ (by omega)
    have Q0 : Hid (Tok l way n ([], 0)) := ⟨rfl, by decide, by omega, fun h => by omega, fun h => HPOS.out⟩
    have e0 : bs [] = ⟨#[]⟩ := rfl
    clear hn B1 C1 hO
    go_wp2
    go_loopw [8, 9] (fun s i wr => ∃ (q : Nat) (T : List UInt8 × Int), i = .int .i64 ((q : Int) - 1) ∧ s = .string (bs T.1) ∧ Hid (Below w1.heap.size w1 wr) ∧ Hid (Tok l way q T)) (fun _ i _ => (intOf i + 1).toNat)
    case atStart => exact ⟨n, ([], 0), rfl, by rw [e0], Below.refl _ _, Q0⟩
    case round =>
      obtain ⟨q, T, rfl, rfl, hB, hQ⟩ := hrel
      cases q with
      | zero =>
        have hRT : R = T := by rw [HR.out]; exact (hQ.out.2.2.2.1 HPOS.out).symm
        have hT0 : Hid (R.2 = 0) := by rw [hRT]; exact hQ.out.1
        subst hRT
        have ej : (((0 : Nat) : Int) - 1) = -1 := rfl
        rw [ej]
        have LB := Lib.hid (L1.out.trans (hB.out.mono L1.out.size))
        clear Q0 HO w5 hB
        go_wp2
        go_ret2
        exact ⟨by rw [hT0.out]; rfl, LB.out⟩
      | succ j =>
        have ej : (((j + 1 : Nat) : Int) - 1) = (j : Int) := by omega
        rw [ej]
        have hjn : j < way.length := by have := hQ.out.2.2.1; omega
        have hjn2 : j < n := by have := HN.out; omega
        have y0 : (0 : Int) ≤ (j : Int) := by omega
        have y1 : (j : Int) < (n : Int) := by omega
        obtain ⟨ad, cap, e9, hc⟩ := RowN.cells HO.out.row
        cases e9
        obtain ⟨b, o, rfl, hbl, hcw⟩ := hc j hjn
        obtain ⟨k, hk⟩ : ∃ k, k = way.getD j 0 := ⟨_, rfl⟩
        rw [← hk] at hcw
        have HK := Lib.hid hk
        have hkl : k < l.length := by rw [hk]; exact (HWay.out.lt j hjn).1
        obtain ⟨ad3, cap3, e1, hc2⟩ := RowP.cells HV.out
        cases e1
        obtain ⟨b2, o2, rfl, hbl2, hp0, hp1, hp2⟩ := hc2 k hkl
        have LB := Lib.hid (L1.out.trans (hB.out.mono L1.out.size))
        rw [← hB.out.cell (p := ⟨b, o + j, none⟩) hbl] at hcw
        rw [← LB.out.cell (p := ⟨b2, o2 + k * 3, none⟩) hbl2] at hp0
        rw [← LB.out.cell (p := ⟨b2, o2 + k * 3 + 1, none⟩) hbl2] at hp1
        rw [← LB.out.cell (p := ⟨b2, o2 + k * 3 + 2, none⟩) hbl2] at hp2
        have FA := Lib.hid (told_again HWay.out hQ.out HK.out HR.out)
        have htl := ht _ (getD_mem l zp k hkl)
        have hTX : txq l k = tlq (l.getD k zp) T.1 := by rw [HK.out]; exact HWay.out.text hjn hQ.out.1 hQ.out.2.2.2.1
        obtain ⟨x, hx⟩ : ∃ x, x = l.getD k zp := ⟨_, rfl⟩
        rw [← hx] at hp0 hp1 hp2 htl hTX
        have hTl := hQ.out.2.1
        obtain ⟨d, xb, t⟩ := x
        dsimp only at hp0 hp1 hp2 htl
        have hz := bs_size t
        have yk1 : (k : Int) < (l.length : Int) := by omega
        have yk0 : (0 : Int) ≤ (k : Int) := by omega
        have hB9 : Hid (∀ o', Below w1.heap.size w1 (wr.alloc o')) := fun o' => hB.out.alloc hB.out.size _
        cases d with
        | false =>
          have hT2 : tlq ⟨false, xb, t⟩ T.1 = if 4099 < t.length then ([], 19) else (t, 0) := rfl
          rw [hT2] at hTX
          by_cases h4 : 4099 < t.length
          · rw [if_pos h4] at hTX
            have HE : Hid (R = ([], 19)) := by show _ = _; rw [← hTX]; exact FA.out.2 (by rw [hTX]; decide)
            have t4 : (4099 : Int) < ((bs t).size : Int) := by omega
            generalize bs t = st at *
            have LBB : Hid (∀ o', Below w.heap.size w (wr.alloc o')) := fun o' => LB.out.alloc LB.out.size _
            clear hTX FA htl hz h4 hx hc hc2 hk Q0 HO hQ hT2 LB
            go_wp2
            go_ret2
            exact ⟨by rw [HE.out]; rfl, LBB.out _⟩
          · rw [if_neg h4] at hTX
            have HT := Lib.hid hTX
            have t4 : ((bs t).size : Int) ≤ 4099 := by omega
            have FB1 := Lib.hid (FA.out.1 (by rw [hTX]))
            have FB2 : Hid (bs (txq l k).1 = bs t) := by show _ = _; rw [hTX]
            generalize bs t = st at *
            clear hTX FA htl hz h4 hx hc hc2 hk Q0 HO hQ hT2 LB
            go_wp2
            go_roundw
            case rel => exact ⟨j, txq l k, by go_num, by rw [FB2.out], hB9.out _, FB1.out⟩
            case measure => simp [intOf]
        | true =>
          have hT2 : tlq ⟨true, xb, t⟩ T.1 = aRes T.1 t := rfl
          rw [hT2] at hTX
          have C9 : Hid (∀ W, Calls Tryz.prog 76 #[.string (bs T.1), .string (bs t)] W fun e w' => e = .returned (.tuple #[.string (bs (txq l k).1), .int .i64 (txq l k).2]) ∧ Below W.heap.size W w') := fun W => by
            rw [hTX]; exact qapply_any T.1 t W (by omega) htl
          obtain ⟨ek, hek⟩ : ∃ ek, ek = (txq l k).2 := ⟨_, rfl⟩
          rw [← hek] at C9
          have HEK := Lib.hid hek
          obtain ⟨sk, hsk⟩ : ∃ sk, sk = bs (txq l k).1 := ⟨_, rfl⟩
          rw [← hsk] at C9
          have HSK := Lib.hid hsk
          have LBB : Hid (∀ o' W, Below (wr.alloc o').heap.size (wr.alloc o') W → Below w.heap.size w W) := fun o' W h => (LB.out.alloc LB.out.size _).trans (h.mono (by have := LB.out.size; simp; omega))
          have HB8 : Hid (∀ o' W, Below (wr.alloc o').heap.size (wr.alloc o') W → Below w1.heap.size w1 W) := fun o' W h => (hB9.out _).trans (h.mono (by have := hB.out.size; simp; omega))
          generalize bs t = st at *
          generalize bs T.1 = sT at *
          clear hTX htl hz hx hc hc2 hk Q0 HO hQ hT2 LB hek hsk
          go_wp2_with fail
          refine (C9.out _).mono ?_
          rintro e w5 ⟨rfl, B5⟩
          have X1 := Lib.hid (LBB.out _ _ B5)
          have X2 := Lib.hid (HB8.out _ _ B5)
          clear B5 C9 LBB HB8 hB9
          by_cases ce : ek = 0
          · subst ce
            have FB1 := Lib.hid (FA.out.1 HEK.out.symm)
            clear FA
            go_wp2
            go_roundw
            case rel => exact ⟨j, txq l k, by go_num, by rw [HSK.out], X2.out, FB1.out⟩
            case measure => simp [intOf]
          · have hne : (txq l k).2 ≠ 0 := by rw [← HEK.out]; exact ce
            have HE : Hid (R = ([], ek)) := by show _ = _; rw [FA.out.2 hne, HEK.out, ← txq_err l k hne]
            clear FA hne
            go_wp2
            go_ret2
            exact ⟨by rw [HE.out]; rfl, X1.out⟩
  · rw [if_neg c]
    have e0 : bs [] = ⟨#[]⟩ := rfl
    dsimp only
    rw [e0]
    clear hR hv
    go_enter Tryz.func50, Tryz.ntmps50
    go_wp2_with fail
    refine (C1.out _ HV.out).mono ?_
    rintro e w1 ⟨u, rfl, hO, B1⟩
    have L1 := Lib.hid B1
    clear B1 hO C1 HV
    go_wp2
    go_ret2
    exact ⟨rfl, L1.out⟩
end Go.Proofs.YtnmjcpoobabjgaaGreatDoor
/- The reference's texts of all parts; the texts of all parts are the document's. -/
namespace Go.Proofs.YtnmjcpoobabjgaaGreatDoor
set_option maxRecDepth 100000
open Go.RowKit
def qallT (l : List Pt) : List (List UInt8) × Int := if 200 < l.length then ([], 1) else allR (fun i => qtextR l (i : Int)) l.length
theorem allR_upto {f g : Nat → List UInt8 × Int} {n : Nat} (h : ∀ i, i < n → (∀ j, j < i → (f j).2 = 0) → f i = g i) : allR f n = allR g n := by
  induction n with
  | zero => rfl
  | succ n ih =>
    have e := ih fun i hi hj => h i (by omega) hj
    rw [allR, allR, ← e]
    by_cases c : (allR f n).2 = 0
    · rw [h n (by omega) (allR_ok c).2]
    · rw [if_neg c, if_neg c]
/- all texts are the document's -/
theorem qallT_eq (l : List Pt) : qallT l = allT l := by
  unfold qallT allT
  by_cases c : 200 < l.length
  · rw [if_pos c]
    have e : (textR l ((0 : Nat) : Int)) = ([], 1) := by
      unfold textR wayR
      rw [if_pos (Or.inl c)]
      rfl
    have := allR_first (f := fun i => textR l (i : Int)) (n := l.length) (i := 0) (by omega) rfl (by show (textR l ((0 : Nat) : Int)).2 ≠ 0; rw [e]; decide)
    rw [this]
    show _ = ([], (textR l ((0 : Nat) : Int)).2)
    rw [e]
  · rw [if_neg c]
    symm
    refine allR_upto fun i hi hj => ?_
    have hfm : ∀ j, j < i → fm (l.getD j zp) j = true := fun j hji => by
      have h0 := hj j hji
      unfold textR at h0
      by_cases cw : (wayR l (j : Int)).2 = 0
      · have hw := wayR_way cw
        have h1 := hw.2.2.2.1.lt 0 hw.2.2.2.1.pos
        have h2 := hw.2.2.2.2.1
        cases hp : (wayR l (j : Int)).1 with
        | nil => rw [hp] at h2; simp at h2
        | cons a r =>
          rw [hp] at h1 h2
          simp only [List.head?_cons, Option.some.injEq, Int.toNat_natCast] at h2
          subst h2
          exact h1.2
      · rw [if_neg cw] at h0; exact absurd h0 cw
    have e : wayR l (i : Int) = qwayR l (i : Int) := by
      unfold wayR qwayR
      rw [Int.toNat_natCast, ql_al 4 i hfm]
    show textR l (i : Int) = qtextR l (i : Int)
    unfold textR qtextR
    rw [e]
set_option maxHeartbeats 2000000 in
theorem qall_any9 {l : List Pt} {v : Value} {w : World} (hv : RowP w v l) (hs : l.length ≤ 10000) (ht : ∀ x ∈ l, x.t.length ≤ 50000) :
    Calls Tryz.prog 31 #[v] w fun e w' => ∃ u, e = .returned (.tuple #[u, .int .i64 (allT l).2]) ∧ OwnS w' w.heap.size u (allT l).1 ∧ Below w.heap.size w w' := by
  rw [← qallT_eq]
  obtain ⟨f, hf⟩ : ∃ f : Nat → List UInt8 × Int, f = fun (i : Nat) => qtextR l (i : Int) := ⟨_, rfl⟩
  have C2 : Hid (∀ W (k : Nat), RowP W v l → Calls Tryz.prog 50 #[v, .int .i64 (k : Int)] W fun e w' => e = .returned (.tuple #[.string (bs (f k).1), .int .i64 (f k).2]) ∧ Below W.heap.size W w') := fun W k h => by
    rw [hf]
    exact qtext_any9 k h (by omega) ht
  obtain ⟨n, hn⟩ : ∃ n, n = l.length := ⟨_, rfl⟩
  obtain ⟨R, hR⟩ : ∃ R, R = qallT l := ⟨_, rfl⟩
  rw [← hR]
  have HV := Lib.hid hv
  obtain ⟨ad, cap, hvs⟩ := RowG.len hv
  rw [← hn] at hvs
  subst hvs
  have n4 : n ≤ 10000 := by omega
  by_cases c : 200 < n
  · have HR : Hid (R = ([], 1)) := by show _ = _; rw [hR]; unfold qallT; rw [if_pos (by omega)]
    have t1 : (200 : Int) < (n : Int) := by omega
    clear hf hn hR hv ht hs
    go_enter Tryz.func31, Tryz.ntmps31
    go_wp2
    go_ret2
    exact ⟨.slice none 0 0, by rw [HR.out]; rfl, by rw [HR.out]; exact OwnG.nil _ _ _ _ _ _, Below.refl _ _⟩
  · have HR : Hid (R = allR f n) := by show _ = _; rw [hR, hf]; unfold qallT; rw [if_neg (by omega), hn]
    have t1 : (n : Int) ≤ 200 := by omega
    clear hf hn hR hv ht hs
    go_enter Tryz.func31, Tryz.ntmps31
    go_wp2
    go_loopw [4, 5] (fun a i wr => ∃ (k : Nat) (u : Value), u = a ∧ k ≤ n ∧ i = .int .i64 (k : Int) ∧ Hid ((allR f k).2 = 0) ∧ Hid (OwnS wr w.heap.size u (allR f k).1) ∧ Hid (Below w.heap.size w wr)) (fun _ i _ => n - (intOf i).toNat)
    case atStart => exact ⟨0, _, rfl, Nat.zero_le _, rfl, rfl, OwnG.nil _ _ _ _ _ _, Below.refl _ _⟩
    case round =>
      obtain ⟨k, u, rfl, hk, rfl, hE, hO, hB⟩ := hrel
      by_cases hlt : k < n
      · have yk : (k : Int) < (n : Int) := by omega
        have w5 : IntKind.i64.wrap ((k : Int) + 1) = (k : Int) + 1 := IntWalk.i64_in _ (by omega)
        have C3 := Lib.hid (fun W h => C2.out W k h)
        obtain ⟨x, er, hx⟩ : ∃ x er, f k = (x, er) := ⟨_, _, rfl⟩
        rw [hx] at C3
        dsimp only at C3
        have hlen := allR_len (f := f) (n := k)
        have RV := Lib.hid (HV.out.below hB.out)
        by_cases ce : er = 0
        · subst ce
          have HX : Hid (allR f (k + 1) = ((allR f k).1 ++ [x], 0)) := by show _ = _; rw [allR, if_pos hE.out, if_pos (by rw [hx]), hx]
          obtain ⟨L, hL⟩ : ∃ L, L = (allR f k).1 := ⟨_, rfl⟩
          rw [← hL] at hO HX hlen
          obtain ⟨sx, hsx⟩ : ∃ sx, sx = bs x := ⟨_, rfl⟩
          have AP : Hid (∀ W, OwnS W w.heap.size u L → w.heap.size ≤ W.heap.size → _) := Lib.hid (fun W h1 h2 => app_s (B := w.heap.size) (w := W) x h1 h2 (by omega))
          rw [← hsx] at C3 AP
          obtain ⟨ln, hln⟩ : ∃ ln, ln = L.length := ⟨_, rfl⟩
          rw [← hln] at AP
          clear hsx hx C2 HR hlen hL hln HV
          go_wp2_with fail
          refine (C3.out _ RV.out).mono ?_
          rintro e w2 ⟨rfl, B2⟩
          have L2 := Lib.hid (hB.out.trans (B2.mono hB.out.size))
          have O2 := Lib.hid (hO.out.all B2)
          obtain ⟨g, gc, w3, hr, O3, B3⟩ := AP.out w2 O2.out L2.out.size
          have HO3 : Hid (OwnS w3 w.heap.size (.slice (some ⟨g, 0, none⟩) (ln + 1) gc) (L ++ [x])) := O3
          have L3 := Lib.hid (L2.out.trans B3)
          obtain ⟨au, nu, cu, hus⟩ : ∃ au nu cu, u = .slice au nu cu := by
            obtain ⟨x1, x2, x3⟩ := RowG.len O2.out.row
            exact ⟨_, _, _, x3⟩
          subst hus
          clear B2 O2 O3 B3 AP C3 hO hB RV
          go_wp2_with (at_builtin; refine wpList_append_run rfl (.tmp 26) (.tmp 28) 71 71 rfl _ _ _ _ rfl rfl hr ?_)
          clear hr
          go_wp2
          go_roundw
          case rel => exact ⟨k + 1, _, rfl, by omega, by go_num, by rw [HX.out]; rfl, by rw [HX.out]; exact HO3.out, L3.out⟩
          case measure => simp [intOf]; omega
        · have HX : Hid (R = ([], er)) := by show _ = _; rw [HR.out, allR_first hlt hE.out (by rw [hx]; exact ce), hx]
          clear hx C2 HR hlen
          go_wp2_with fail
          refine (C3.out _ RV.out).mono ?_
          rintro e w2 ⟨rfl, B2⟩
          have L2 := Lib.hid (hB.out.trans (B2.mono hB.out.size))
          clear B2 hO C3 hB
          go_wp2
          go_ret2
          exact ⟨.slice none 0 0, by rw [HX.out]; rfl, by rw [HX.out]; exact OwnG.nil _ _ _ _ _ _, L2.out⟩
      · have e : k = n := by omega
        subst e
        have HRE : Hid (R.2 = 0 ∧ R.1 = (allR f k).1) := by rw [HR.out]; exact ⟨hE.out, rfl⟩
        clear C2 HV
        go_wp2
        go_ret2
        exact ⟨u, by rw [HRE.out.1]; rfl, by rw [HRE.out.2]; exact hO.out, hB.out⟩
end Go.Proofs.YtnmjcpoobabjgaaGreatDoor
