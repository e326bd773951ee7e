import Derived.Test.YtekeaoolodmdaaaEC
import Derived.Test.YtekeaoolodmdaaaEB
/- What a delta's bytes say. -/
namespace Go.Proofs.Ytekeaoolodmdaaa
set_option maxRecDepth 100000
open Go.RowKit
attribute [local go_sem] run_store_complex
def RSaid (o : Option (Nat × List Pz)) (B : Nat) (e : Ending) (w' : World) : Prop :=
  match o with
  | none => e = .returned (.tuple #[.int .i64 0, .slice none 0 0, .int .i64 2])
  | some x => ∃ v, e = .returned (.tuple #[.int .i64 (x.1 : Int), v, .int .i64 0]) ∧ OwnZ w' B v x.2
/- where a reader stands, as a measure -/
def rdM (n : Nat) (w : World) (r : Nat) : Nat :=
  match w.cell? ⟨r, 1, none⟩, w.cell? ⟨r, 2, none⟩ with
  | some (.int _ p), some (.int _ e) => if e = 0 then n + 1 - p.toNat else 0
  | _, _ => 0
theorem rdM_of {w : World} {r : Nat} {l : List UInt8} {p : Nat} {e : Int} (h : Rd w r l p e) (n : Nat) : rdM n w r = if e = 0 then n + 1 - p else 0 := by
  unfold rdM
  rw [h.cells.2.1, h.cells.2.2.1]
  simp
theorem end_is {n p : Nat} {e : Int} (h : e ≠ 5) : endOf n p e = 5 ↔ e = 0 ∧ p < n := by
  unfold endOf
  constructor
  · intro h5
    split at h5
    · exact absurd h5 h
    · split at h5
      · exact ⟨by omega, by assumption⟩
      · omega
  · rintro ⟨rfl, hp⟩
    rw [if_neg (by simp), if_pos hp]
theorem end_ok {n p : Nat} {e : Int} (hp : p ≤ n) : endOf n p e = 0 ↔ e = 0 ∧ p = n := by
  unfold endOf
  constructor
  · intro h5
    split at h5
    · omega
    · split at h5
      · omega
      · omega
  · rintro ⟨rfl, rfl⟩
    rw [if_neg (by simp), if_neg (by omega)]
/- what holds where it goes on with the label -/
def ReadJ (R : Option (Nat × List Pz)) (w : World) (lab : Nat) (a : Act) (w' : World) : Prop :=
  lab = 0 ∧ R = none ∧ Below w.heap.size w w' ∧ ∃ (u0 u1 u2 u3 u4 u5 u6 u7 u8 u9 u10 u11 u12 u13 u14 u15 u16 u17 u18 u19 u20 u21 u22 u23 u24 u25 u26 u27 u28 u29 u30 u31 u32 u33 u34 u35 u36 u37 u38 u39 u40 u41 u42 u43 : Value), a = { tmps := #[u0, u1, u2, u3, u4, u5, u6, u7, u8, u9, u10, u11, u12, u13, u14, u15, u16, u17, u18, u19, u20, u21, u22, u23, u24, u25, u26, u27, u28, u29, u30, u31, u32, u33, u34, u35, u36, u37, u38, u39, u40, u41, u42, u43], defers := [] }
/- where the loop stands -/
structure RS (R : Option (List Pz)) (b many : Nat) (d : List UInt8) (r z : Nat) (w : World) (l : List Pz) (v : Value) (p : Nat) (e : Int) (left : Nat) (wr : World) : Prop where
  rd : Rd wr r d p e
  le : p ≤ d.length
  five : e ≠ 5
  ip : IP R b d l p e left
  own : OwnZ wr z v l
  few : l.length + left ≤ many
  all : Below w.heap.size w wr
  zle : z ≤ wr.heap.size
theorem RS.below {R : Option (List Pz)} {b many : Nat} {d : List UInt8} {r z : Nat} {w : World} {l : List Pz} {v : Value} {p : Nat} {e : Int} {left : Nat} {wr w' : World} (h : RS R b many d r z w l v p e left wr) (hb : Below wr.heap.size wr w') : RS R b many d r z w l v p e left w' :=
  ⟨h.rd.keep (Keep.all (K := fun _ => True) hb) trivial, h.le, h.five, h.ip, h.own.all hb, h.few, h.all.trans (hb.mono h.all.size), Nat.le_trans h.zle hb.size⟩
/- the same between a piece read and one put behind -/
def RT (d : List UInt8) (r z : Nat) (w : World) (l : List Pz) (v : Value) (p : Nat) (e : Int) (W : World) : Prop := Rd W r d p e ∧ OwnZ W z v l ∧ Below w.heap.size w W ∧ z ≤ W.heap.size
theorem RT.below {d : List UInt8} {r z : Nat} {w : World} {l : List Pz} {v : Value} {p : Nat} {e : Int} {W W' : World} (h : RT d r z w l v p e W) (hb : Below W.heap.size W W') : RT d r z w l v p e W' :=
  ⟨h.1.keep (Keep.all (K := fun _ => True) hb) trivial, h.2.1.all hb, h.2.2.1.trans (hb.mono h.2.2.1.size), Nat.le_trans h.2.2.2 hb.size⟩
theorem RS.read {R : Option (List Pz)} {b many : Nat} {d : List UInt8} {r z : Nat} {w : World} {l : List Pz} {v : Value} {p : Nat} {e : Int} {left : Nat} {wr W : World} {p' : Nat} {e' : Int} (h : RS R b many d r z w l v p e left wr) (hr : w.heap.size ≤ r ∧ r < z) (hR : Rd W r d p' e') (hk : Keep (fun k => k ≠ r) wr W) : RT d r z w l v p' e' W :=
  ⟨hR, owns_keep h.own hk (fun g hg => by have := own_lt h.own hg; show g ≠ r; omega), h.all.trans ⟨hk.os, hk.tape, hk.output, hk.size, fun j hj => hk.block j (by show j ≠ r; omega) (Nat.lt_of_lt_of_le hj h.all.size)⟩, Nat.le_trans h.zle hk.size⟩
set_option maxHeartbeats 4000000 in
theorem read_any (d : List UInt8) (w : World) (hl : d.length ≤ 1000000000) :
    Calls Try.prog 56 #[.string (bs d)] w fun e w' => RSaid (dRead d) w.heap.size e w' ∧ Below w.heap.size w w' := by
  have C0 : Hid (∀ W, _) := Lib.hid (fun W => new_any d W (by omega))
  obtain ⟨b, p1, e1, h1⟩ : ∃ b p1 e1, rNum 4099 d 0 0 = (b, p1, e1) := ⟨_, _, _, rfl⟩
  obtain ⟨many, p2, e2, h2⟩ : ∃ many p2 e2, rNum 4099 d p1 e1 = (many, p2, e2) := ⟨_, _, _, rfl⟩
  have l1 : p1 ≤ d.length := by have := rNum_le 4099 d 0 0 (Nat.zero_le _); rw [h1] at this; exact this
  have l2 : p2 ≤ d.length := by have := rNum_le 4099 d p1 e1 l1; rw [h2] at this; exact this
  have f1 : e1 ≠ 5 := by have := num_five 4099 d 0 0 (by decide); rw [h1] at this; exact this
  have f2 : e2 ≠ 5 := by have := num_five 4099 d p1 e1 f1; rw [h2] at this; exact this
  have v1 : b ≤ 4099 := by have := (num_value 4099 d 0 (by decide)).1; rw [h1] at this; dsimp only at this; omega
  have v2 : many ≤ 4099 := by
    by_cases c : e1 = 0
    · subst c; have := (num_value 4099 d p1 (by decide)).1; rw [h2] at this; dsimp only at this; omega
    · rw [num_err c] at h2; simp only [Prod.mk.injEq] at h2; omega
  have C1 : Hid (∀ W r, Rd W r d 0 0 → Calls Try.prog 70 #[.pointer (some ⟨r, 0, none⟩), .int .i64 4099] W fun v w' => v = .returned (.int .i64 (b : Int)) ∧ Rd w' r d p1 e1 ∧ Keep (fun k => k ≠ r) W w') := fun W r hW => by
    have := rnum_any 4099 hW (Nat.zero_le _) (by omega)
    rw [h1] at this; exact this
  have C2 : Hid (∀ W r, Rd W r d p1 e1 → Calls Try.prog 70 #[.pointer (some ⟨r, 0, none⟩), .int .i64 4099] W fun v w' => v = .returned (.int .i64 (many : Int)) ∧ Rd w' r d p2 e2 ∧ Keep (fun k => k ≠ r) W w') := fun W r hW => by
    have := rnum_any 4099 hW l1 (by omega)
    rw [h2] at this; exact this
  have RR : dRead d = if e2 = 0 then (prs b d p2 many).map (fun l => (b, l)) else none := by unfold dRead; rw [h1]; dsimp only; rw [h2]
  rw [RR]
  have HIP : Hid (∃ R, IP R b d [] p2 e2 many ∧ (if e2 = 0 then (prs b d p2 many).map (fun l => (b, l)) else none) = R.map (fun l => (b, l))) := by
    by_cases c : e2 = 0
    · subst c
      exact ⟨_, IP.start b d p2 many, by rw [if_pos rfl]⟩
    · exact ⟨none, by unfold IP; rw [if_neg c], by rw [if_neg c]; rfl⟩
  obtain ⟨R, hIP, hR⟩ := HIP.out
  rw [hR]
  have HI := Lib.hid hIP
  have H2 := Lib.hid (And.intro l2 (And.intro f2 (And.intro v1 (And.intro v2 hl))))
  clear hIP hR RR h1 h2 HIP l1 l2 f1 f2 v1 v2 hl
  obtain ⟨sb, hsb⟩ : ∃ sb, sb = bs d := ⟨_, rfl⟩
  rw [← hsb] at C0 ⊢
  clear hsb
  go_enter Try.func56, Try.ntmps56
  go_wp2
  refine wp_scope_labels (ReadJ (R.map (fun l => (b, l))) w) (fun _ _ _ => 0) ?_ ?_
  · go_wp2_with fail
    refine (C0.out _).mono ?_
    rintro e w1 ⟨r, rfl, hr, R1, B1⟩
    have rlt := R1.lt
    have HZ := Lib.hid (And.intro hr rlt)
    have HR1 := Lib.hid R1
    have HB1 := Lib.hid B1
    clear R1 B1 hr rlt C0
    go_wp2_with fail
    refine (C1.out _ _ HR1.out).mono ?_
    rintro e w2 ⟨rfl, R2, K2⟩
    have HR2 := Lib.hid R2
    have HK2 := Lib.hid K2
    clear R2 K2 C1 HR1
    go_wp2_with fail
    refine (C2.out _ _ HR2.out).mono ?_
    rintro e w3 ⟨rfl, R3, K3⟩
    have T0 : Hid (RS R b many d r w1.heap.size w [] (.slice none 0 0) p2 e2 many w3) := by
      have k := HK2.out.trans K3
      exact ⟨R3, H2.out.1, H2.out.2.1, HI.out, OwnZ.nil _ _, by simp, HB1.out.trans ⟨k.os, k.tape, k.output, k.size, fun j hj => k.block j (by have := HZ.out.1; omega) (Nat.lt_of_lt_of_le hj HB1.out.size)⟩, k.size⟩
    clear R3 K3 C2 HR2 HK2 HI HB1
    go_wp2
    go_loopw [7, 8] (fun y u wr => ∃ (l : List Pz) (v : Value) (p : Nat) (e : Int) (left : Nat), y = .int .i64 (left : Int) ∧ v = u ∧ Hid (RS R b many d r w1.heap.size w l v p e left wr)) (fun _ _ wr => rdM d.length wr r)
    case atStart => exact ⟨_, _, _, _, _, rfl, rfl, T0⟩
    case round =>
      obtain ⟨l, v, p, e, left, rfl, rfl, hT⟩ := hrel
      clear T0
      have HE := end_any hT.out.rd
      by_cases h5 : e = 0 ∧ p < d.length
      · rw [(end_is hT.out.five).2 h5] at HE
        obtain ⟨rfl, hp⟩ := h5
        have HP := Lib.hid hp
        have HHE := Lib.hid HE
        clear hp HE
        obtain ⟨x, p', e', hx⟩ : ∃ x p' e', rpz big big d p 0 = (x, p', e') := ⟨_, _, _, rfl⟩
        have hsm : small x := by have := rpz_smallp big big (by decide) (by decide) d p 0; rw [hx] at this; exact this
        have M0 : Hid (rdM d.length wr r = d.length + 1 - p) := by show _ = _; rw [rdM_of hT.out.rd, if_pos rfl]
        have P1 : Hid (∀ W, Rd W r d p 0 → Calls Try.prog 72 #[.pointer (some ⟨r, 0, none⟩)] W fun v w' => v = .returned (pv x) ∧ Rd w' r d p' e' ∧ Keep (fun k => k ≠ r) W w') := fun W h => by
          have := readpiece_any h hT.out.le (by have := H2.out.2.2.2.2; omega)
          rw [hx] at this; exact this
        have P2 : Hid (∀ W, _) := Lib.hid (fun W => right_any b x W H2.out.2.2.1 hsm)
        have P3 : Hid (∀ W, _) := Lib.hid (fun W => size_any x W hsm)
        have HX := Lib.hid hx
        clear hx hsm
        unfold pv cpv at P1 P2 P3
        have AP : Hid (∀ W, OwnZ W w1.heap.size v l → w1.heap.size ≤ W.heap.size → ∃ g cap w', (Builtin.append_ #[59, 59] 59 #[v, .slice (some ⟨W.heap.size, 0, none⟩) 1 1]).run Try.prog (W.alloc (.cells #[.complex .f64 (FB (x.p : Int)) (FB (x.n : Int)), .string (bs x.t)] 76)) = .ok (.slice (some ⟨g, 0, none⟩) (l.length + 1) cap) w' ∧
          OwnZ w' w1.heap.size (.slice (some ⟨g, 0, none⟩) (l.length + 1) cap) (l ++ [x]) ∧ Below w1.heap.size W w') := fun W h1 h2 => app_z x h1 h2 (by have := hT.out.few; have := H2.out.2.2.2.1; omega)
        generalize FB (x.p : Int) = P at *
        generalize FB (x.n : Int) = N at *
        generalize hS : bs x.t = sx at *
        clear hS
        go_wp2_with fail
        refine HHE.out.mono ?_
        rintro v' w4 ⟨rfl, B4⟩
        have T4 := Lib.hid (hT.out.below B4)
        clear B4 hT HHE
        go_wp2_with fail
        refine (P1.out _ T4.out.rd).mono ?_
        rintro v' w5 ⟨rfl, R5, K5⟩
        have S5 := Lib.hid (T4.out.read HZ.out R5 K5)
        clear R5 K5 P1
        have B5a := (Below.refl w5.heap.size w5).alloc (Nat.le_refl _) (.cells #[.complex .f64 P N, .string sx] 76)
        have S6 := Lib.hid (S5.out.below B5a)
        clear B5a S5
        go_wp2_with fail
        refine (P2.out _).mono ?_
        rintro v' w6 ⟨rfl, B6⟩
        have S7 := Lib.hid (S6.out.below B6)
        have d0 : w6.cell? ⟨w5.heap.size, 0, none⟩ = some (.complex .f64 P N) := by rw [B6.cell (by simp)]; exact cell_of_row _ _ _ _ _ _ (heap_alloc_new _ _)
        have d1 : w6.cell? ⟨w5.heap.size, 1, none⟩ = some (.string sx) := by rw [B6.cell (by simp)]; exact cell_of_row _ _ _ _ _ _ (heap_alloc_new _ _)
        have LT5 : Hid (w5.heap.size < w6.heap.size) := by have := B6.size; show _ < _; simp at this; omega
        clear B6 S6
        by_cases hg : good b x
        · have tg : decide (good b x) = true := decide_eq_true hg
          have HG := Lib.hid hg
          clear hg P2
          go_wp2_with fail
          refine (P3.out _).mono ?_
          rintro v' w7 ⟨rfl, B7⟩
          have S8 := Lib.hid (S7.out.below B7)
          have e0 : w7.cell? ⟨w5.heap.size, 0, none⟩ = some (.complex .f64 P N) := by rw [B7.cell LT5.out]; exact d0
          have e1 : w7.cell? ⟨w5.heap.size, 1, none⟩ = some (.string sx) := by rw [B7.cell LT5.out]; exact d1
          clear B7 d0 d1 P3 S7
          have zs := sz_le HG.out
          have lm := T4.out.few
          have mm := H2.out.2.2.2.1
          by_cases hs : sz x ≤ left
          · have w8 : IntKind.i64.wrap ((left : Int) - (sz x : Int)) = ((left - sz x : Nat) : Int) := by rw [show (left : Int) - (sz x : Int) = ((left - sz x : Nat) : Int) by omega]; exact IntWalk.i64_in _ (by omega)
            obtain ⟨g, cap, w9, hr, O9, L9⟩ := AP.out w7 S8.out.2.1 S8.out.2.2.2
            have le' : p' ≤ d.length := by have := rpz_le big big d p 0 T4.out.le; rw [HX.out] at this; exact this
            have fv' : e' ≠ 5 := by have := rpz_five big big d p 0 (by decide); rw [HX.out] at this; exact this
            have T9 : Hid (RS R b many d r w1.heap.size w (l ++ [x]) (.slice (some ⟨g, 0, none⟩) (l.length + 1) cap) p' e' (left - sz x) w9) :=
              ⟨S8.out.1.keep (Keep.of_below (K := fun k => k = r) L9 (fun k hk _ => by have := HZ.out.2; omega)) rfl, le', fv', T4.out.ip.step HP.out HX.out HG.out hs, O9, by rw [List.length_append, List.length_singleton]; omega, S8.out.2.2.1.trans (L9.mono (by have := HZ.out; omega)), Nat.le_trans S8.out.2.2.2 L9.size⟩
            have M9 : Hid (rdM d.length w9 r < rdM d.length wr r) := by
              show _ < _
              rw [M0.out, rdM_of T9.out.rd]
              have hp := HP.out
              by_cases c : e' = 0
              · have := rpz_moves (m1 := big) (m2 := big) (d := d) (p := p) (by rw [HX.out]; exact c)
                rw [HX.out] at this
                rw [if_pos c]
                have : p < p' := this
                omega
              · rw [if_neg c]; omega
            have tn : decide (((left - sz x : Nat) : Int) < 0) = false := decide_eq_false (by omega)
            clear O9 L9 le' fv' zs lm mm hs AP S8 T4 M0 HX tg
            generalize hq : left - sz x = ln at *
            clear hq
            go_wp2_with (at_builtin; refine wpList_append_run rfl (.tmp 31) (.tmp 33) 59 59 rfl _ _ _ _ rfl rfl hr ?_)
            clear hr e0 e1
            go_wp2
            go_roundw
            case rel => exact ⟨_, _, _, _, _, rfl, rfl, T9⟩
            case measure => exact M9.out
          · obtain ⟨ln, hln⟩ : ∃ ln : Int, ln = (left : Int) - (sz x : Int) := ⟨_, rfl⟩
            have w8 : IntKind.i64.wrap ((left : Int) - (sz x : Int)) = ln := by rw [hln]; exact IntWalk.i64_in _ (by omega)
            have tn : ln < 0 := by omega
            have RN := Lib.hid (T4.out.ip.bad HP.out HX.out (fun h => hs h.2))
            clear AP zs lm mm hs T4 M0 HX tg hln
            go_wp2
            go_step3
            exact ⟨rfl, by rw [RN.out]; rfl, S8.out.2.2.1, _, _, _, _, _, _, _, _, _, _, _, _, _, _, _, _, _, _, _, _, _, _, _, _, _, _, _, _, _, _, _, _, _, _, _, _, _, _, _, _, _, _, _, _, rfl⟩
        · have tg : decide (good b x) = false := decide_eq_false hg
          have RN := Lib.hid (T4.out.ip.bad HP.out HX.out (fun h => hg h.1))
          clear hg P2 P3 AP d0 d1
          go_wp2
          go_step3
          exact ⟨rfl, by rw [RN.out]; rfl, S7.out.2.2.1, _, _, _, _, _, _, _, _, _, _, _, _, _, _, _, _, _, _, _, _, _, _, _, _, _, _, _, _, _, _, _, _, _, _, _, _, _, _, _, _, _, _, _, _, rfl⟩
      · by_cases h0 : e = 0 ∧ p = d.length
        · rw [(end_ok hT.out.le).2 h0] at HE
          obtain ⟨rfl, rfl⟩ := h0
          have HHE := Lib.hid HE
          have FIN := hT.out.ip.fin (Nat.le_refl _)
          by_cases hz : left = 0
          · subst hz
            rw [if_pos rfl] at FIN
            have HF := Lib.hid FIN
            clear FIN HE h5
            go_wp2_with fail
            refine HHE.out.mono ?_
            rintro v' w4 ⟨rfl, B4⟩
            have T4 := Lib.hid (hT.out.below B4)
            clear B4 hT
            go_wp2_with fail
            have HE2 := end_any T4.out.rd
            rw [(end_ok T4.out.le).2 ⟨rfl, rfl⟩] at HE2
            refine HE2.mono ?_
            rintro v' w5 ⟨rfl, B5⟩
            have T5 := Lib.hid (T4.out.below B5)
            clear B5 T4 HE2 HHE
            go_wp2
            simp only [exitJumps]
            go_ret3
            refine ⟨?_, T5.out.all⟩
            rw [HF.out]
            exact ⟨v, rfl, T5.out.own.mono (by have := HZ.out; omega)⟩
          · rw [if_neg hz] at FIN
            have RN := Lib.hid FIN
            have t3 : (0 : Int) < (left : Int) := by omega
            clear FIN HE h5 hz
            go_wp2_with fail
            refine HHE.out.mono ?_
            rintro v' w4 ⟨rfl, B4⟩
            have T4 := Lib.hid (hT.out.below B4)
            clear B4 hT
            go_wp2_with fail
            have HE2 := end_any T4.out.rd
            rw [(end_ok T4.out.le).2 ⟨rfl, rfl⟩] at HE2
            refine HE2.mono ?_
            rintro v' w5 ⟨rfl, B5⟩
            have T5 := Lib.hid (T4.out.below B5)
            clear B5 T4 HE2 HHE
            go_wp2
            go_step3
            exact ⟨rfl, by rw [RN.out]; rfl, T5.out.all, _, _, _, _, _, _, _, _, _, _, _, _, _, _, _, _, _, _, _, _, _, _, _, _, _, _, _, _, _, _, _, _, _, _, _, _, _, _, _, _, _, _, _, _, rfl⟩
        · have ne0 : e ≠ 0 := by
            have := hT.out.le
            intro c
            by_cases c2 : p = d.length
            · exact h0 ⟨c, c2⟩
            · exact h5 ⟨c, by omega⟩
          have RN := Lib.hid (hT.out.ip.err ne0)
          have hE5 : ¬ endOf d.length p e = 5 := fun h => h5 ((end_is hT.out.five).1 h)
          have hE0 : ¬ endOf d.length p e = 0 := fun h => h0 ((end_ok hT.out.le).1 h)
          obtain ⟨E, hE⟩ : ∃ E, E = endOf d.length p e := ⟨_, rfl⟩
          rw [← hE] at HE hE5 hE0
          have HEE := Lib.hid hE
          have HHE := Lib.hid HE
          have t1 : (E == 5) = false := by simpa using hE5
          have t2 : (E != 0) = true := by simpa using hE0
          clear HE h5 h0 ne0 hE hE5 hE0
          go_wp2_with fail
          refine HHE.out.mono ?_
          rintro v' w4 ⟨rfl, B4⟩
          have T4 := Lib.hid (hT.out.below B4)
          clear B4 hT
          go_wp2_with fail
          have HE2 := end_any T4.out.rd
          rw [← HEE.out] at HE2
          refine HE2.mono ?_
          rintro v' w5 ⟨rfl, B5⟩
          have T5 := Lib.hid (T4.out.below B5)
          clear B5 T4 HE2 HHE HEE
          go_wp2
          go_step3
          exact ⟨rfl, by rw [RN.out]; rfl, T5.out.all, _, _, _, _, _, _, _, _, _, _, _, _, _, _, _, _, _, _, _, _, _, _, _, _, _, _, _, _, _, _, _, _, _, _, _, _, _, _, _, _, _, _, _, _, rfl⟩
  · rintro lab a w' ⟨rfl, hN, hB, u0, u1, u2, u3, u4, u5, u6, u7, u8, u9, u10, u11, u12, u13, u14, u15, u16, u17, u18, u19, u20, u21, u22, u23, u24, u25, u26, u27, u28, u29, u30, u31, u32, u33, u34, u35, u36, u37, u38, u39, u40, u41, u42, u43, rfl⟩
    have RN := Lib.hid hN
    have HB := Lib.hid hB
    clear hN hB
    refine ⟨_, rfl, wp_seq (wp_skip ?_)⟩
    go_wp2
    simp only [exitJumps]
    go_ret3
    refine ⟨?_, HB.out⟩
    rw [RN.out]
    rfl
end Go.Proofs.Ytekeaoolodmdaaa
