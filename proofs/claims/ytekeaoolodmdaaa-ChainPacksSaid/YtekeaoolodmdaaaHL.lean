import Derived.Test.YtekeaoolodmdaaaHHm
import Derived.Deep.Cut
/- The reference's way from a part to a plain one. -/
namespace Go.Proofs.Ytekeaoolodmdaaa
set_option maxRecDepth 100000
open Go.RowKit
def ql (l : List Pt) : Nat → Nat → List Nat × Int
  | 0, _ => ([], 11)
  | k + 1, at_ => if fm (l.getD at_ zp) at_ then (if (l.getD at_ zp).d then (if (ql l k (l.getD at_ zp).b.toNat).2 = 0 then (at_ :: (ql l k (l.getD at_ zp).b.toNat).1, 0) else ([], (ql l k (l.getD at_ zp).b.toNat).2)) else ([at_], 0)) else ([], 2)
theorem ql_err (l : List Pt) (k at_ : Nat) : (ql l k at_).2 ≠ 0 → (ql l k at_).1 = [] := by
  cases k with
  | zero => intro _; rfl
  | succ k =>
    unfold ql
    split
    · split
      · split
        · simp
        · simp
      · simp
    · simp
theorem ql_wrong {l : List Pt} {k at_ : Nat} (h : fm (l.getD at_ zp) at_ = false) : ql l (k + 1) at_ = ([], 2) := by unfold ql; rw [h]; rfl
theorem ql_plain {l : List Pt} {k at_ : Nat} (h : fm (l.getD at_ zp) at_ = true) (hd : (l.getD at_ zp).d = false) : ql l (k + 1) at_ = ([at_], 0) := by
  unfold ql; rw [if_pos h, if_neg (by rw [hd]; decide)]
theorem ql_delta {l : List Pt} {k at_ : Nat} (h : fm (l.getD at_ zp) at_ = true) (hd : (l.getD at_ zp).d = true) (way : List Nat) : pre way (ql l (k + 1) at_) = pre (way ++ [at_]) (ql l k (l.getD at_ zp).b.toNat) := by
  have e : ql l (k + 1) at_ = if (ql l k (l.getD at_ zp).b.toNat).2 = 0 then (at_ :: (ql l k (l.getD at_ zp).b.toNat).1, 0) else ([], (ql l k (l.getD at_ zp).b.toNat).2) := by
    conv => lhs; unfold ql
    rw [if_pos h, if_pos hd]
  rw [e]
  unfold pre
  generalize ql l k (l.getD at_ zp).b.toNat = r
  by_cases c : r.2 = 0
  · rw [if_pos c, if_pos c, if_pos rfl, List.append_assoc]; rfl
  · rw [if_neg c, if_neg c, if_neg c]
/- where all ahead have bases that may be, both ways are the same -/
theorem ql_al {l : List Pt} : ∀ (k at_ : Nat), (∀ j, j < at_ → fm (l.getD j zp) j = true) → ql l (k + 1) at_ = al l (k + 1) at_ := by
  intro k
  induction k with
  | zero =>
    intro at_ h
    by_cases hf : fm (l.getD at_ zp) at_ = true
    · by_cases hd : (l.getD at_ zp).d = true
      · have h3 := fm_delta hf hd
        have e1 := ql_delta (k := 0) hf hd []
        have e2 := al_delta (k := 0) hf hd []
        rw [pre_nil (ql_err l _ _)] at e1
        rw [pre_nil (al_err l _ _)] at e2
        rw [e1, e2, al_deep (h _ h3.2.2)]
        rfl
      · have hd' : (l.getD at_ zp).d = false := by simpa using hd
        rw [ql_plain hf hd', al_plain hf hd']
    · have hf' : fm (l.getD at_ zp) at_ = false := by simpa using hf
      rw [ql_wrong hf', al_wrong hf']
  | succ k ih =>
    intro at_ h
    by_cases hf : fm (l.getD at_ zp) at_ = true
    · by_cases hd : (l.getD at_ zp).d = true
      · have h3 := fm_delta hf hd
        have e1 := ql_delta (k := k + 1) hf hd []
        have e2 := al_delta (k := k + 1) hf hd []
        rw [pre_nil (ql_err l _ _)] at e1
        rw [pre_nil (al_err l _ _)] at e2
        rw [e1, e2, ih _ fun j hj => h j (by omega)]
      · have hd' : (l.getD at_ zp).d = false := by simpa using hd
        rw [ql_plain hf hd', al_plain hf hd']
    · have hf' : fm (l.getD at_ zp) at_ = false := by simpa using hf
      rw [ql_wrong hf', al_wrong hf']
theorem ql_ok {l : List Pt} : ∀ (k at_ : Nat), (ql l k at_).2 = 0 → al l k at_ = ql l k at_ := by
  intro k
  induction k with
  | zero => intro at_ h; unfold ql at h; simp at h
  | succ k ih =>
    intro at_ h
    by_cases hf : fm (l.getD at_ zp) at_ = true
    · by_cases hd : (l.getD at_ zp).d = true
      · have e1 := ql_delta (k := k) hf hd []
        have e2 := al_delta (k := k) hf hd []
        rw [pre_nil (ql_err l _ _)] at e1
        rw [pre_nil (al_err l _ _)] at e2
        rw [e1] at h ⊢
        unfold pre at h
        by_cases c : (ql l k (l.getD at_ zp).b.toNat).2 = 0
        · rw [e2, ih _ c]
        · rw [if_neg c] at h; exact absurd h c
      · have hd' : (l.getD at_ zp).d = false := by simpa using hd
        rw [ql_plain hf hd', al_plain hf hd']
    · rw [ql_wrong (by simpa using hf)] at h
      simp at h
def qwayR (l : List Pt) (at_ : Int) : List Nat × Int := if 200 < l.length ∨ at_ < 0 ∨ (l.length : Int) ≤ at_ then ([], 1) else ql l 5 at_.toNat
theorem qwayR_err {l : List Pt} {at_ : Int} (h : (qwayR l at_).2 ≠ 0) : (qwayR l at_).1 = [] := by
  unfold qwayR at *
  split
  · rfl
  · rename_i c; rw [if_neg c] at h; exact ql_err l _ _ h
theorem qwayR_ok {l : List Pt} {at_ : Int} (h : (qwayR l at_).2 = 0) : wayR l at_ = qwayR l at_ := by
  unfold qwayR wayR at *
  split
  · rfl
  · rename_i c; rw [if_neg c] at h; exact ql_ok 5 _ h
set_option maxHeartbeats 4000000 in
theorem qpath_any {l : List Pt} {v : Value} (at_ : Int) {w : World} (hv : RowP w v l) (hs : l.length ≤ 100000) :
    Calls Try.prog 12 #[v, .int .i64 at_] w fun e w' => ∃ u, e = .returned (.tuple #[u, .int .i64 (qwayR l at_).2]) ∧ OwnN w' w.heap.size u (qwayR l at_).1 ∧ Below w.heap.size w w' := by
  have H0 : Hid (RowP w v l) := hv
  obtain ⟨ad, cap, rfl⟩ := RowG.len hv
  clear hv
  obtain ⟨R, hR⟩ : ∃ R, R = qwayR l at_ := ⟨_, rfl⟩
  rw [← hR]
  by_cases c : 200 < l.length ∨ at_ < 0 ∨ (l.length : Int) ≤ at_
  · have hR1 : Hid (R = ([], 1)) := by show _ = _; rw [hR]; unfold qwayR; rw [if_pos c]
    clear hR
    have hcs : (200 : Int) < (l.length : Int) ∨ (¬ (200 : Int) < (l.length : Int) ∧ at_ < 0) ∨ (¬ (200 : Int) < (l.length : Int) ∧ ¬ at_ < 0 ∧ (l.length : Int) ≤ at_) := by omega
    clear c
    rcases hcs with c1 | ⟨c1, c2⟩ | ⟨c1, c2, c3⟩
    all_goals
      go_enter Try.func12, Try.ntmps12
      go_wp2
      go_ret2
      exact ⟨.slice none 0 0, by rw [hR1.out]; rfl, by rw [hR1.out]; exact OwnG.nil _ _ _ _ _ _, Below.refl _ _⟩
  · have hR1 : Hid (R = ql l 5 at_.toNat) := by show _ = _; rw [hR]; unfold qwayR; rw [if_neg c]
    clear hR
    have c1 : ¬ (200 : Int) < (l.length : Int) := by omega
    have c2 : ¬ at_ < 0 := by omega
    have c3 : ¬ (l.length : Int) ≤ at_ := by omega
    obtain ⟨a0, rfl⟩ : ∃ a0 : Nat, at_ = (a0 : Int) := ⟨at_.toNat, by omega⟩
    have HA : Hid (a0 < l.length) := by show _ < _; omega
    have HR0 : Hid (R = pre [] (ql l (5 - ([] : List Nat).length) a0)) := by show _ = _; rw [pre_nil (ql_err l _ _)]; exact hR1.out
    obtain ⟨N, hN⟩ : ∃ N, N = l.length := ⟨_, rfl⟩
    rw [← hN] at c1 c3 H0 HA ⊢
    have HN := Lib.hid hN
    clear c hR1 hN hs
    go_enter Try.func12, Try.ntmps12
    go_wp2
    go_loopw [1, 6, 7] (fun x a i wr => ∃ (k : Nat) (way : List Nat) (u : Value) (n : Nat), u = a ∧ x = .int .i64 (k : Int) ∧ i = .int .i64 (n : Int) ∧ n ≤ 5 ∧ k < N ∧ Hid (n = way.length) ∧ Hid (OwnN wr w.heap.size u way) ∧ Hid (R = pre way (ql l (5 - way.length) k)) ∧ Hid (Below w.heap.size w wr)) (fun _ _ i _ => 6 - (intOf i).toNat)
    case atStart => exact ⟨a0, [], _, 0, rfl, rfl, rfl, by decide, HA.out, rfl, OwnG.nil _ _ _ _ _ _, HR0.out, Below.refl _ _⟩
    case round =>
      obtain ⟨k, way, u, n, rfl, rfl, rfl, hn5, hk, hn, hO, hR, hB⟩ := hrel
      clear c1 c2 c3 HA HR0
      by_cases h5 : n = 5
      · have HE : Hid (R = ([], 11)) := by show _ = _; rw [hR.out, ← hn.out, h5]; rfl
        have t5 : ((n : Int) == 5) = true := by simp; omega
        have t6 : (n : Int) < 6 := by omega
        clear hR hO h5
        go_wp2
        go_ret2
        exact ⟨.slice none 0 0, by rw [HE.out]; rfl, by rw [HE.out]; exact OwnG.nil _ _ _ _ _ _, hB.out⟩
      · have t5 : ((n : Int) == 5) = false := by simp; omega
        have t6 : (n : Int) < 6 := by omega
        have yk : (k : Int) < (N : Int) := by omega
        have y0 : (0 : Int) ≤ (k : Int) := by omega
        have w5 : IntKind.i64.wrap ((n : Int) + 1) = (n : Int) + 1 := IntWalk.i64_in _ (by omega)
        obtain ⟨ad', cap', e0, hc⟩ := RowP.cells H0.out
        cases e0
        obtain ⟨b, o, rfl, hbl, hc0, hc1, hc2⟩ := hc k (by rw [← HN.out]; exact hk)
        obtain ⟨x, hx⟩ : ∃ x, x = l.getD k zp := ⟨_, rfl⟩
        rw [← hx] at hc0 hc1 hc2
        have HX := Lib.hid hx
        obtain ⟨ao, no, co, hus⟩ : ∃ ao no co, u = .slice ao no co := by
          obtain ⟨x1, x2, x3⟩ := RowG.len hO.out.row
          exact ⟨_, _, _, x3⟩
        subst hus
        obtain ⟨gb, gc, w2, hrun, O2, B2⟩ := app_n k hO.out hB.out.size (by have := hn.out; omega)
        have L2 := Lib.hid (hB.out.trans B2)
        have HO2 := Lib.hid O2
        have g0 : w2.cell? ⟨b, o + k * 3, none⟩ = some (.bool x.d) := by rw [L2.out.cell (p := ⟨b, o + k * 3, none⟩) hbl]; exact hc0
        have g1 : w2.cell? ⟨b, o + k * 3 + 1, none⟩ = some (.int .i64 x.b) := by rw [L2.out.cell (p := ⟨b, o + k * 3 + 1, none⟩) hbl]; exact hc1
        have N2 : Hid ((way ++ [k]).length = way.length + 1) := by show _ = _; simp
        rw [← hn.out] at hrun HO2
        clear hc hc0 hc1 hc2 hx O2 B2 hO hB
        have HF : Hid (fm x k = false → R = ([], 2)) := fun h => by
          rw [hR.out, ← hn.out, show 5 - n = (4 - n) + 1 by omega, ql_wrong (by rw [← HX.out]; exact h)]; rfl
        have HP : Hid (fm x k = true → x.d = false → R = (way ++ [k], 0)) := fun h hd => by
          rw [hR.out, ← hn.out, show 5 - n = (4 - n) + 1 by omega, ql_plain (by rw [← HX.out]; exact h) (by rw [← HX.out]; exact hd)]; rfl
        have HD : Hid (fm x k = true → x.d = true → R = pre (way ++ [k]) (ql l (5 - (way ++ [k]).length) x.b.toNat)) := fun h hd => by
          rw [hR.out, N2.out, ← hn.out, show 5 - n = (5 - (n + 1)) + 1 by omega, ql_delta (by rw [← HX.out]; exact h) (by rw [← HX.out]; exact hd), ← HX.out]
        obtain ⟨d, xb, t⟩ := x
        dsimp only at g0 g1
        clear hR HX
        cases d with
        | false =>
          by_cases hb0 : xb = 0
          · have HE := Lib.hid (HP.out (by unfold fm; simp [hb0]) rfl)
            have t7 : (xb == 0) = true := by simpa using hb0
            clear HF HP HD hb0
            go_wp2_with (at_builtin; refine wpList_append_run rfl (.tmp 27) (.tmp 29) 30 30 rfl _ _ _ _ rfl rfl hrun ?_)
            clear hrun
            go_wp2
            go_ret2
            exact ⟨.slice (some ⟨gb, 0, none⟩) (n + 1) gc, by rw [HE.out]; rfl, by rw [HE.out]; exact HO2.out, L2.out⟩
          · have HE := Lib.hid (HF.out (by unfold fm; simp [hb0]))
            have t7 : (xb == 0) = false := by simpa using hb0
            clear HF HP HD hb0
            go_wp2_with (at_builtin; refine wpList_append_run rfl (.tmp 27) (.tmp 29) 30 30 rfl _ _ _ _ rfl rfl hrun ?_)
            clear hrun
            go_wp2
            go_ret2
            exact ⟨.slice none 0 0, by rw [HE.out]; rfl, by rw [HE.out]; exact OwnG.nil _ _ _ _ _ _, L2.out⟩
        | true =>
          by_cases hb0 : xb < 0
          · have HE := Lib.hid (HF.out (by unfold fm; simp; omega))
            have t7 : decide (xb < 0) = true := by simpa using hb0
            clear HF HP HD
            go_wp2_with (at_builtin; refine wpList_append_run rfl (.tmp 27) (.tmp 29) 30 30 rfl _ _ _ _ rfl rfl hrun ?_)
            clear hrun
            go_wp2
            go_ret2
            exact ⟨.slice none 0 0, by rw [HE.out]; rfl, by rw [HE.out]; exact OwnG.nil _ _ _ _ _ _, L2.out⟩
          · have t7 : decide (xb < 0) = false := by simpa using hb0
            by_cases hbk : (k : Int) ≤ xb
            · have HE := Lib.hid (HF.out (by unfold fm; simp; omega))
              clear HF HP HD
              go_wp2_with (at_builtin; refine wpList_append_run rfl (.tmp 27) (.tmp 29) 30 30 rfl _ _ _ _ rfl rfl hrun ?_)
              clear hrun
              go_wp2
              go_ret2
              exact ⟨.slice none 0 0, by rw [HE.out]; rfl, by rw [HE.out]; exact OwnG.nil _ _ _ _ _ _, L2.out⟩
            · obtain ⟨xn, rfl⟩ : ∃ xn : Nat, xb = (xn : Int) := ⟨xb.toNat, by omega⟩
              have HE := Lib.hid (HD.out (by unfold fm; simp; omega) rfl)
              have t8 : (xn : Int) < (k : Int) := by omega
              have HL : Hid (xn < l.length) := by show _ < _; omega
              clear HF HP HD
              go_wp2_with (at_builtin; refine wpList_append_run rfl (.tmp 27) (.tmp 29) 30 30 rfl _ _ _ _ rfl rfl hrun ?_)
              clear hrun
              go_wp2
              go_roundw
              case rel => exact ⟨xn, way ++ [k], _, n + 1, rfl, rfl, by go_num, by omega, HL.out, by show _ = _; rw [N2.out, hn.out], HO2.out, HE.out, L2.out⟩
              case measure => simp [intOf]; omega
end Go.Proofs.Ytekeaoolodmdaaa
