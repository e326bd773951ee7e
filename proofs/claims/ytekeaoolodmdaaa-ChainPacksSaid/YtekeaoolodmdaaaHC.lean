import Derived.Test.YtekeaoolodmdaaaHAm
import Derived.Test.YtekeaoolodmdaaaV5m
import Derived.Deep.Cut
/- May a part's base be? The way from a part to a plain one. -/
namespace Go.Proofs.Ytekeaoolodmdaaa
set_option maxRecDepth 100000
open Go.RowKit
theorem formed_any (x : Pt) (k : Int) (w : World) :
    Calls Try.prog 29 #[.agg #[.bool x.d, .int .i64 x.b, .string (bs x.t)], .int .i64 k] w fun e w' => e = .returned (.bool (fm x k)) ∧ Below w.heap.size w w' := by
  obtain ⟨d, b, t⟩ := x
  unfold fm
  dsimp only
  generalize bs t = st
  have B0 : Hid (∀ o, Below w.heap.size w (w.alloc o)) := fun o => (Below.refl _ _).alloc (Nat.le_refl _) o
  cases d with
  | false =>
    have hq : (if false = true then decide (0 ≤ b) && decide (b < k) else decide (b = 0)) = (b == 0) := rfl
    rw [hq]
    go_enter Try.func29, Try.ntmps29
    go_wp2
    go_ret
    exact ⟨rfl, B0.out _⟩
  | true =>
    have hq : (if true = true then decide (0 ≤ b) && decide (b < k) else decide (b = 0)) = (decide (0 ≤ b) && decide (b < k)) := rfl
    rw [hq]
    by_cases c : 0 ≤ b
    · have e1 : decide (0 ≤ b) = true := by simpa using c
      rw [e1]
      go_enter Try.func29, Try.ntmps29
      go_wp2
      trace_state
      go_ret
      exact ⟨rfl, B0.out _⟩
    · have e1 : decide (0 ≤ b) = false := by simpa using c
      rw [e1]
      go_enter Try.func29, Try.ntmps29
      go_wp2
      trace_state
      go_ret
      exact ⟨rfl, B0.out _⟩
/- what holds where along goes on with a label: all is wrong; a part is next -/
def AlongJ (l : List Pt) (v : Value) (R : List Nat × Int) (w : World) (lab : Nat) (a : Act) (w' : World) : Prop :=
  Below w.heap.size w w' ∧
  ((lab = 0 ∧ ∃ (e : Int) (u1 u4 u5 u6 u8 u9 u10 u11 u12 u13 u14 u15 u16 u17 u18 u19 u20 u21 u22 u23 u24 u25 u26 u27 u28 u29 u30 u31 u32 u33 u34 u35 u36 u37 u38 u39 u40 u41 u42 u43 u44 u45 u46 : Value), a = { tmps := #[v, u1, undef, undef, u4, u5, u6, .int .i64 e, u8, u9, u10, u11, u12, u13, u14, u15, u16, u17, u18, u19, u20, u21, u22, u23, u24, u25, u26, u27, u28, u29, u30, u31, u32, u33, u34, u35, u36, u37, u38, u39, u40, u41, u42, u43, u44, u45, u46], defers := [] } ∧ R = ([], e)) ∨
   (lab = 1 ∧ ∃ (k : Nat) (way : List Nat) (u u4 u5 u7 u8 u9 u10 u11 u12 u13 u14 u15 u16 u17 u18 u19 u20 u21 u22 u23 u24 u25 u26 u27 u28 u29 u30 u31 u32 u33 u34 u35 u36 u37 u38 u39 u40 u41 u42 u43 u44 u45 u46 : Value), a = { tmps := #[v, .int .i64 (k : Int), undef, undef, u4, u5, u, u7, u8, u9, u10, u11, u12, u13, u14, u15, u16, u17, u18, u19, u20, u21, u22, u23, u24, u25, u26, u27, u28, u29, u30, u31, u32, u33, u34, u35, u36, u37, u38, u39, u40, u41, u42, u43, u44, u45, u46], defers := [] } ∧ k < l.length ∧ way.length ≤ 5 ∧ OwnN w' w.heap.size u way ∧ R = pre way (al l (5 - way.length) k)))
def AlongJ0 (v : Value) (R : List Nat × Int) (w : World) (lab : Nat) (a : Act) (w' : World) : Prop :=
  lab = 0 ∧ Below w.heap.size w w' ∧ ∃ (e : Int) (u1 u4 u5 u6 u8 u9 u10 u11 u12 u13 u14 u15 u16 u17 u18 u19 u20 u21 u22 u23 u24 u25 u26 u27 u28 u29 u30 u31 u32 u33 u34 u35 u36 u37 u38 u39 u40 u41 u42 u43 u44 u45 u46 : Value), a = { tmps := #[v, u1, undef, undef, u4, u5, u6, .int .i64 e, u8, u9, u10, u11, u12, u13, u14, u15, u16, u17, u18, u19, u20, u21, u22, u23, u24, u25, u26, u27, u28, u29, u30, u31, u32, u33, u34, u35, u36, u37, u38, u39, u40, u41, u42, u43, u44, u45, u46], defers := [] } ∧ R = ([], e)
def alongM (lab : Nat) (a : Act) (_ : World) : Nat := if lab = 0 then 0 else 1 + (intOf (a.tmps.getD 1 undef)).toNat
set_option maxHeartbeats 4000000 in
theorem along_any {l : List Pt} {v : Value} (at_ : Int) {w : World} (hv : RowP w v l) (hs : l.length ≤ 100000) :
    Calls Try.prog 22 #[v, .int .i64 at_] w fun e w' => ∃ u, e = .returned (.tuple #[u, .int .i64 (wayR l at_).2]) ∧ OwnN w' w.heap.size u (wayR l at_).1 ∧ Below w.heap.size w w' := by
  have H0 : Hid (RowP w v l) := hv
  obtain ⟨ad, cap, rfl⟩ := RowG.len hv
  clear hv
  obtain ⟨R, hR⟩ : ∃ R, R = wayR l at_ := ⟨_, rfl⟩
  rw [← hR]
  by_cases c : 200 < l.length ∨ at_ < 0 ∨ (l.length : Int) ≤ at_
  · have hR1 : Hid (R = ([], 1)) := by show _ = _; rw [hR]; unfold wayR; rw [if_pos c]
    clear hR
    have hcs : (200 : Int) < (l.length : Int) ∨ (¬ (200 : Int) < (l.length : Int) ∧ at_ < 0) ∨ (¬ (200 : Int) < (l.length : Int) ∧ ¬ at_ < 0 ∧ (l.length : Int) ≤ at_) := by omega
    clear c
    have P0 : ∀ (a : Act) (w' : World) (e : Int) (Q : Exit → Act → World → Prop), True := fun _ _ _ _ => trivial
    rcases hcs with c1 | ⟨c1, c2⟩ | ⟨c1, c2, c3⟩
    all_goals
      go_enter Try.func22, Try.ntmps22
      go_wp2
      refine wp_scope_labels (AlongJ0 (.slice ad l.length cap) R w) (fun _ _ _ => 0) ?_ ?_
      · go_wp2
        go_step3
        exact ⟨rfl, Below.refl _ _, 1, _, _, _, _, _, _, _, _, _, _, _, _, _, _, _, _, _, _, _, _, _, _, _, _, _, _, _, _, _, _, _, _, _, _, _, _, _, _, _, _, _, _, _, rfl, hR1.out⟩
      · rintro lab a w' ⟨rfl, hb, e, u1, u4, u5, u6, u8, u9, u10, u11, u12, u13, u14, u15, u16, u17, u18, u19, u20, u21, u22, u23, u24, u25, u26, u27, u28, u29, u30, u31, u32, u33, u34, u35, u36, u37, u38, u39, u40, u41, u42, u43, u44, u45, u46, ha, hr⟩
        refine ⟨_, rfl, ?_⟩
        dsimp only at ha
        subst ha
        have HB := Lib.hid hb
        have HR := Lib.hid hr
        clear hb hr hR1
        go_wp2
        simp only [exitJumps]
        go_ret2
        exact ⟨.slice none 0 0, by rw [HR.out]; rfl, by rw [HR.out]; exact OwnG.nil _ _ _ _ _ _, HB.out⟩
  · have hR1 : Hid (R = al l 5 at_.toNat) := by show _ = _; rw [hR]; unfold wayR; rw [if_neg c]
    clear hR
    have c1 : ¬ (200 : Int) < (l.length : Int) := by omega
    have c2 : ¬ at_ < 0 := by omega
    have c3 : ¬ (l.length : Int) ≤ at_ := by omega
    obtain ⟨a0, rfl⟩ : ∃ a0 : Nat, at_ = (a0 : Int) := ⟨at_.toNat, by omega⟩
    have HA : Hid (a0 < l.length) := by show _ < _; omega
    clear c
    go_enter Try.func22, Try.ntmps22
    go_wp2
    refine wp_scope_two (AlongJ l (.slice ad l.length cap) R w) alongM rfl rfl (fun lab a w' h => h.2.elim (fun h => Or.inl h.1) (fun h => Or.inr h.1)) ?_ ?_ ?_
    · intro R' hR'
      go_wp2
      go_step3
      rename_i K0 hK0
      exact hK0 _ _ (hR' _ _ ⟨Below.refl _ _, Or.inr ⟨rfl, a0, [], .slice none 0 0, _, _, _, _, _, _, _, _, _, _, _, _, _, _, _, _, _, _, _, _, _, _, _, _, _, _, _, _, _, _, _, _, _, _, _, _, _, _, _, _, _, _, rfl, HA.out, by decide, OwnG.nil _ _ _ _ _ _, by rw [pre_nil (al_err l _ _)]; exact hR1.out⟩⟩)
    · rintro a w' ⟨hb, ⟨_, e, u1, u4, u5, u6, u8, u9, u10, u11, u12, u13, u14, u15, u16, u17, u18, u19, u20, u21, u22, u23, u24, u25, u26, u27, u28, u29, u30, u31, u32, u33, u34, u35, u36, u37, u38, u39, u40, u41, u42, u43, u44, u45, u46, ha, hr⟩ | ⟨h01, _⟩⟩
      · dsimp only at ha
        subst ha
        have HB := Lib.hid hb
        have HR := Lib.hid hr
        clear hb hr hR1
        go_wp2
        simp only [exitJumps]
        go_ret2
        exact ⟨.slice none 0 0, by rw [HR.out]; rfl, by rw [HR.out]; exact OwnG.nil _ _ _ _ _ _, HB.out⟩
      · cases h01
    · rintro a w' ⟨hb, ⟨h01, _⟩ | ⟨_, k, way, u, u4, u5, u7, u8, u9, u10, u11, u12, u13, u14, u15, u16, u17, u18, u19, u20, u21, u22, u23, u24, u25, u26, u27, u28, u29, u30, u31, u32, u33, u34, u35, u36, u37, u38, u39, u40, u41, u42, u43, u44, u45, u46, ha, hk, hw5, ho, hr⟩⟩
      · cases h01
      · dsimp only at ha
        subst ha
        clear c1 c2 c3 hR1 HA
        have HB := Lib.hid hb
        have HR := Lib.hid hr
        have HO := Lib.hid ho
        have HW := Lib.hid hw5
        have HK := Lib.hid hk
        obtain ⟨ad', cap', e0, hc⟩ := RowP.cells H0.out
        cases e0
        obtain ⟨b, o, rfl, hbl, hc0, hc1, hc2⟩ := hc k hk
        rw [← hb.cell (by exact hbl)] at hc0 hc1 hc2
        clear hc hr ho hw5
        obtain ⟨x, hx⟩ : ∃ x, x = l.getD k zp := ⟨_, rfl⟩
        rw [← hx] at hc0 hc1 hc2
        have HX := Lib.hid hx
        clear hx
        have C1 : Hid (∀ W, _) := Lib.hid (fun W => formed_any x (k : Int) W)
        have yk : (k : Int) < (l.length : Int) := by omega
        have y0 : (0 : Int) ≤ (k : Int) := by omega
        obtain ⟨d, xb, t⟩ := x
        dsimp only at C1 hc0 hc1 hc2
        have HF : Hid (∀ W : World, Below w.heap.size w' W → W.cell? ⟨b, o + k * 3, none⟩ = some (.bool d) ∧ W.cell? ⟨b, o + k * 3 + 1, none⟩ = some (.int .i64 xb)) := fun W hW => ⟨by rw [hW.cell hbl]; exact hc0, by rw [hW.cell hbl]; exact hc1⟩
        generalize bs t = st at C1 hc2
        by_cases hf : fm ⟨d, xb, t⟩ (k : Int) = true
        · have HFm := Lib.hid hf
          rw [hf] at C1
          clear hf
          obtain ⟨ao, n, co, hn, rfl⟩ : ∃ ao n co, n = way.length ∧ u = .slice ao n co := by
            obtain ⟨x1, x2, x3⟩ := RowG.len HO.out.row
            exact ⟨_, _, _, rfl, x3⟩
          have HN := Lib.hid hn
          clear hn
          have HZ : Hid (w.heap.size ≤ w'.heap.size) := hb.size
          go_wp2_with fail
          refine (C1.out _).mono ?_
          rintro e w1 ⟨rfl, B1⟩
          obtain ⟨g1, g2⟩ := HF.out _ (B1.mono HZ.out)
          have O1 := Lib.hid (HO.out.all B1)
          have L1 := Lib.hid (HB.out.trans (B1.mono HZ.out))
          obtain ⟨gb, gc, w2, hrun, O2, B2⟩ := app_n k O1.out L1.out.size (by have := HW.out; omega)
          have L2 := Lib.hid (L1.out.trans B2)
          obtain ⟨g3, g4⟩ := HF.out _ ((B1.mono HZ.out).trans B2)
          have HO2 := Lib.hid O2
          clear B1 B2 O1 O2 HB HO C1 HF hc0 hc1 hc2 hb
          have N2 : Hid ((way ++ [k]).length = way.length + 1) := by show _ = _; simp
          have HS : Hid (way.length = 5 → R = ([], 11)) := fun w5 => by
            rw [HR.out, w5, Nat.sub_self, al_deep (by rw [← HX.out]; exact HFm.out)]
            rfl
          have HP : Hid (way.length < 5 → d = false → R = (way ++ [k], 0)) := fun w5 hd => by
            rw [HR.out, show 5 - way.length = (4 - way.length) + 1 by omega, al_plain (by rw [← HX.out]; exact HFm.out) (by rw [← HX.out]; exact hd)]
            rfl
          have HD : Hid (way.length < 5 → d = true → 0 ≤ xb ∧ xb < k ∧ R = pre (way ++ [k]) (al l (5 - (way ++ [k]).length) xb.toNat)) := fun w5 hd => by
            have h3 := fm_delta HFm.out hd
            refine ⟨h3.1, h3.2.1, ?_⟩
            rw [HR.out, N2.out, show 5 - way.length = (5 - (way.length + 1)) + 1 by omega, al_delta (by rw [← HX.out]; exact HFm.out) (by rw [← HX.out]; exact hd), ← HX.out]
          rw [← HN.out] at hrun HO2
          have n5 := HW.out
          rw [← HN.out] at n5
          clear HR HFm HX
          by_cases w5 : n = 5
          · have t5 : (5 : Int) < (n : Int) + 1 := by omega
            have HE := Lib.hid (HS.out (by rw [← HN.out]; exact w5))
            clear HS HP HD w5 n5 g1 g2
            go_wp2_with (at_builtin; refine wpList_append_run rfl (.tmp 28) (.tmp 30) 30 30 rfl _ _ _ _ rfl rfl hrun ?_)
            clear hrun
            go_wp2
            go_step3
            exact ⟨⟨L2.out, Or.inl ⟨rfl, 11, _, _, _, _, _, _, _, _, _, _, _, _, _, _, _, _, _, _, _, _, _, _, _, _, _, _, _, _, _, _, _, _, _, _, _, _, _, _, _, _, _, _, _, rfl, HE.out⟩⟩, by show 0 < 1 + _; omega⟩
          · have t5 : (n : Int) + 1 ≤ 5 := by omega
            have HLT : Hid (way.length < 5) := by show _ < _; rw [← HN.out]; omega
            cases d with
            | false =>
              have HE := Lib.hid (HP.out HLT.out rfl)
              clear HS HP HD w5 n5 g1 g2
              go_wp2_with (at_builtin; refine wpList_append_run rfl (.tmp 28) (.tmp 30) 30 30 rfl _ _ _ _ rfl rfl hrun ?_)
              clear hrun
              go_wp2
              simp only [exitJumps]
              go_ret2
              exact ⟨.slice (some ⟨gb, 0, none⟩) (n + 1) gc, by rw [HE.out]; rfl, by rw [HE.out]; exact HO2.out, L2.out⟩
            | true =>
              obtain ⟨b0, b1, b2⟩ := HD.out HLT.out rfl
              obtain ⟨xn, rfl⟩ : ∃ xn : Nat, xb = (xn : Int) := ⟨xb.toNat, by omega⟩
              have HB2 := Lib.hid b2
              have HL := Lib.hid b1
              clear HS HP HD w5 n5 g1 g2 b0 b1 b2
              go_wp2_with (at_builtin; refine wpList_append_run rfl (.tmp 28) (.tmp 30) 30 30 rfl _ _ _ _ rfl rfl hrun ?_)
              clear hrun
              go_wp2
              go_step3
              refine ⟨⟨L2.out, Or.inr ⟨rfl, xn, way ++ [k], _, _, _, _, _, _, _, _, _, _, _, _, _, _, _, _, _, _, _, _, _, _, _, _, _, _, _, _, _, _, _, _, _, _, _, _, _, _, _, _, _, _, _, rfl, by have := HL.out; have := HK.out; omega, by rw [N2.out]; exact HLT.out, HO2.out, HB2.out⟩⟩, ?_⟩
              have := HL.out
              show 1 + (intOf (.int .i64 (xn : Int))).toNat < 1 + (intOf (.int .i64 (k : Int))).toNat
              simp [intOf]; omega
        · have hf' : fm ⟨d, xb, t⟩ (k : Int) = false := by simpa using hf
          have HE : Hid (R = ([], 2)) := by
            show _ = _
            rw [HR.out, al_wrong (by rw [← HX.out]; exact hf')]
            rfl
          rw [hf'] at C1
          clear hf hf' HR HF HX HO
          go_wp2_with fail
          refine (C1.out _).mono ?_
          rintro e w1 ⟨rfl, B1⟩
          have L1 := Lib.hid (HB.out.trans (B1.mono HB.out.size))
          clear B1 HB C1
          go_wp2
          go_step3
          exact ⟨⟨L1.out, Or.inl ⟨rfl, 2, _, _, _, _, _, _, _, _, _, _, _, _, _, _, _, _, _, _, _, _, _, _, _, _, _, _, _, _, _, _, _, _, _, _, _, _, _, _, _, _, _, _, _, rfl, HE.out⟩⟩, by show 0 < 1 + _; omega⟩
end Go.Proofs.Ytekeaoolodmdaaa
