import Derived.Test.YtnmjcpoobabjgaaGreatDoorECm
import Derived.Test.YtnmjcpoobabjgaaGreatDoorO12
import Derived.Test.YtnmjcpoobabjgaaGreatDoorO8m
import Derived.Deep.Cut
import Derived.Test.YtnmjcpoobabjgaaGreatDoorV7m
set_option linter.unusedVariables false
set_option linter.unusedSimpArgs false
/- What a delta's bytes say. -/
namespace Go.Proofs.YtnmjcpoobabjgaaGreatDoor
set_option maxRecDepth 100000
open Go.RowKit
attribute [local go_sem] run_store_complex
def RSaid (o : Option (Nat × List Pz)) (B : Nat) (e : Ending) (w' : World) : Prop :=
 match o with
 | none => e = .returned (.tuple #[.int .i64 0, .slice none 0 0, .int .i64 2])
 | some x => ∃ v, e = .returned (.tuple #[.int .i64 (x.1 : Int), v, .int .i64 0]) ∧ OwnZ w' B v x.2
/- where a reader stands, as a measure -/
theorem end_is {n p : Nat} {e : Int} (h : e ≠ 5) : endOf n p e = 5 ↔ e = 0 ∧ p < n := by
 unfold endOf
 constructor
 ·intro h5
  split at h5
  ·exact absurd h5 h
  ·split at h5
   ·exact ⟨by omega, by assumption⟩
   ·omega
 ·rintro ⟨rfl, hp⟩
  rw [if_neg (by simp), if_pos hp]
theorem end_ok {n p : Nat} {e : Int} (hp : p ≤ n) : endOf n p e = 0 ↔ e = 0 ∧ p = n := by
 unfold endOf
 constructor
 ·intro h5
  split at h5
  ·omega
  ·split at h5
   ·omega
   ·omega
 ·rintro ⟨rfl, rfl⟩
  rw [if_neg (by simp), if_neg (by omega)]
/- what holds where it goes on with the label -/
def ReadJ (R : Option (Nat × List Pz)) (w : World) (lab : Nat) (a : Act) (w' : World) : Prop :=
 lab = 0 ∧ R = none ∧ Below w.heap.size w w' ∧ ∃ (u0 u1 u2 u3 u4 u5 u6 u7 u8 u9 u10 u11 u12 u13 u14 u15 u16 u17 u18 u19 u20 u21 u22 u23 u24 u25 u26 u27 u28 u29 u30 u31 u32 u33 u34 u35 u36 u37 u38 u39 u40 u41 u42 u43 : Value), a = { tmps := #[u0, u1, u2, u3, u4, u5, u6, u7, u8, u9, u10, u11, u12, u13, u14, u15, u16, u17, u18, u19, u20, u21, u22, u23, u24, u25, u26, u27, u28, u29, u30, u31, u32, u33, u34, u35, u36, u37, u38, u39, u40, u41, u42, u43], defers := [] }
/- where the loop stands -/
structure RS (R : Option (List Pz)) (b many : Nat) (d : List UInt8) (r z : Nat) (w : World) (l : List Pz) (v : Value) (p : Nat) (e : Int) (left : Nat) (wr : World) : Prop where
 rd : Rd wr r d p e
 le : p ≤ d.length
 five : e ≠ 5
 ip : IP R b d l p e left
 own : OwnZ wr z v l
 few : l.length + left ≤ many
 all : Below w.heap.size w wr
 zle : z ≤ wr.heap.size
theorem RS.below {R : Option (List Pz)} {b many : Nat} {d : List UInt8} {r z : Nat} {w : World} {l : List Pz} {v : Value} {p : Nat} {e : Int} {left : Nat} {wr w' : World} (h : RS R b many d r z w l v p e left wr) (hb : Below wr.heap.size wr w') : RS R b many d r z w l v p e left w' :=
 ⟨h.rd.keep (Keep.all (K := fun _ => True) hb) trivial, h.le, h.five, h.ip, h.own.all hb, h.few, h.all.trans (hb.mono h.all.size), Nat.le_trans h.zle hb.size⟩
/- the same between a piece read and one put behind -/
def RT (d : List UInt8) (r z : Nat) (w : World) (l : List Pz) (v : Value) (p : Nat) (e : Int) (W : World) : Prop := Rd W r d p e ∧ OwnZ W z v l ∧ Below w.heap.size w W ∧ z ≤ W.heap.size
theorem RT.below {d : List UInt8} {r z : Nat} {w : World} {l : List Pz} {v : Value} {p : Nat} {e : Int} {W W' : World} (h : RT d r z w l v p e W) (hb : Below W.heap.size W W') : RT d r z w l v p e W' :=
 ⟨h.1.keep (Keep.all (K := fun _ => True) hb) trivial, h.2.1.all hb, h.2.2.1.trans (hb.mono h.2.2.1.size), Nat.le_trans h.2.2.2 hb.size⟩
theorem RS.read {R : Option (List Pz)} {b many : Nat} {d : List UInt8} {r z : Nat} {w : World} {l : List Pz} {v : Value} {p : Nat} {e : Int} {left : Nat} {wr W : World} {p' : Nat} {e' : Int} (h : RS R b many d r z w l v p e left wr) (hr : w.heap.size ≤ r ∧ r < z) (hR : Rd W r d p' e') (hk : Keep (fun k => k ≠ r) wr W) : RT d r z w l v p' e' W :=
 ⟨hR, owns_keep h.own hk (fun g hg => by have := own_lt h.own hg; show g ≠ r; omega), h.all.trans ⟨hk.os, hk.tape, hk.output, hk.size, fun j hj => hk.block j (by show j ≠ r; omega) (Nat.lt_of_lt_of_le hj h.all.size)⟩, Nat.le_trans h.zle hk.size⟩
set_option maxHeartbeats 4000000 in
theorem dread_any (d : List UInt8) (w : World) (hl : d.length ≤ 1000000000) :
  Calls Tryz.prog 121 #[.string (bs d)] w fun e w' => RSaid (dRead d) w.heap.size e w' ∧ Below w.heap.size w w' := by
 have C0 : Hid (∀ W, _) := Lib.hid (fun W => new_any d W (by omega))
 obtain ⟨b, p1, e1, h1⟩ : ∃ b p1 e1, rNum 4099 d 0 0 = (b, p1, e1) := ⟨_, _, _, rfl⟩
 obtain ⟨many, p2, e2, h2⟩ : ∃ many p2 e2, rNum 4099 d p1 e1 = (many, p2, e2) := ⟨_, _, _, rfl⟩
 have l1 : p1 ≤ d.length := by have := rNum_le 4099 d 0 0 (Nat.zero_le _); rw [h1] at this; exact this
 have l2 : p2 ≤ d.length := by have := rNum_le 4099 d p1 e1 l1; rw [h2] at this; exact this
 have f1 : e1 ≠ 5 := by have := num_five 4099 d 0 0 (by decide); rw [h1] at this; exact this
 have f2 : e2 ≠ 5 := by have := num_five 4099 d p1 e1 f1; rw [h2] at this; exact this
 have v1 : b ≤ 4099 := by have := (num_value 4099 d 0 (by decide)).1; rw [h1] at this; dsimp only at this; omega
 have v2 : many ≤ 4099 := by
  by_cases c : e1 = 0
  ·subst c; have := (num_value 4099 d p1 (by decide)).1; rw [h2] at this; dsimp only at this; omega
  ·rw [num_err c] at h2; simp only [Prod.mk.injEq] at h2; omega
 have C1 : Hid (∀ W r, Rd W r d 0 0 → Calls Tryz.prog 61 #[.pointer (some ⟨r, 0, none⟩), .int .i64 4099] W fun v w' => v = .returned (.int .i64 (b : Int)) ∧ Rd w' r d p1 e1 ∧ Keep (fun k => k ≠ r) W w') := fun W r hW => by
  have := rnum_any 4099 hW (Nat.zero_le _) (by omega)
  rw [h1] at this; exact this
 have C2 : Hid (∀ W r, Rd W r d p1 e1 → Calls Tryz.prog 61 #[.pointer (some ⟨r, 0, none⟩), .int .i64 4099] W fun v w' => v = .returned (.int .i64 (many : Int)) ∧ Rd w' r d p2 e2 ∧ Keep (fun k => k ≠ r) W w') := fun W r hW => by
  have := rnum_any 4099 hW l1 (by omega)
  rw [h2] at this; exact this
 have RR : dRead d = if e2 = 0 then (prs b d p2 many).map (fun l => (b, l)) else none := by unfold dRead; rw [h1]; dsimp only; rw [h2]
 rw [RR]
 have HIP : Hid (∃ R, IP R b d [] p2 e2 many ∧ (if e2 = 0 then (prs b d p2 many).map (fun l => (b, l)) else none) = R.map (fun l => (b, l))) := by
  by_cases c : e2 = 0
  ·subst c
   exact ⟨_, IP.start b d p2 many, by rw [if_pos rfl]⟩
  ·exact ⟨none, by unfold IP; rw [if_neg c], by rw [if_neg c]; rfl⟩
 obtain ⟨R, hIP, hR⟩ := HIP.out
 rw [hR]
 have HI := Lib.hid hIP
 have H2 := Lib.hid (And.intro l2 (And.intro f2 (And.intro v1 (And.intro v2 hl))))
 clear hIP hR RR h1 h2 HIP l1 l2 f1 f2 v1 v2 hl
 obtain ⟨sb, hsb⟩ : ∃ sb, sb = bs d := ⟨_, rfl⟩
 rw [← hsb] at C0 ⊢
 clear hsb
 go_enter Tryz.func121, Tryz.ntmps121
 go_wp2
 refine wp_scope_labels (ReadJ (R.map (fun l => (b, l))) w) (fun _ _ _ => 0) ?_ ?_
 ·go_wp2_with fail
  refine (C0.out _).mono ?_
  rintro e w1 ⟨r, rfl, hr, R1, B1⟩
  have rlt := R1.lt
  have HZ := Lib.hid (And.intro hr rlt)
  have HR1 := Lib.hid R1
  have HB1 := Lib.hid B1
  clear R1 B1 hr rlt C0
  go_wp2_with fail
  refine (C1.out _ _ HR1.out).mono ?_
  rintro e w2 ⟨rfl, R2, K2⟩
  have HR2 := Lib.hid R2
  have HK2 := Lib.hid K2
  clear R2 K2 C1 HR1
  go_wp2_with fail
  refine (C2.out _ _ HR2.out).mono ?_
  rintro e w3 ⟨rfl, R3, K3⟩
  have T0 : Hid (RS R b many d r w1.heap.size w [] (.slice none 0 0) p2 e2 many w3) := by
   have k := HK2.out.trans K3
   exact ⟨R3, H2.out.1, H2.out.2.1, HI.out, OwnZ.nil _ _, by simp, HB1.out.trans ⟨k.os, k.tape, k.output, k.size, fun j hj => k.block j (by have := HZ.out.1; omega) (Nat.lt_of_lt_of_le hj HB1.out.size)⟩, k.size⟩
  clear R3 K3 C2 HR2 HK2 HI HB1
  go_wp2
  go_loopw [7, 8] (fun y u wr => ∃ (l : List Pz) (v : Value) (p : Nat) (e : Int) (left : Nat), y = .int .i64 (left : Int) ∧ v = u ∧ Hid (RS R b many d r w1.heap.size w l v p e left wr)) (fun _ _ wr => rdM d.length wr r)
  case atStart => exact ⟨_, _, _, _, _, rfl, rfl, T0⟩
  case round =>
   obtain ⟨l, v, p, e, left, rfl, rfl, hT⟩ := hrel
   clear T0
   have HE := end_any hT.out.rd
   by_cases h5 : e = 0 ∧ p < d.length
   ·rw [(end_is hT.out.five).2 h5] at HE
    obtain ⟨rfl, hp⟩ := h5
    have HP := Lib.hid hp
    have HHE := Lib.hid HE
    clear hp HE
    obtain ⟨x, p', e', hx⟩ : ∃ x p' e', rpz big big d p 0 = (x, p', e') := ⟨_, _, _, rfl⟩
    have hsm : small x := by have := rpz_smallp big big (by decide) (by decide) d p 0; rw [hx] at this; exact this
    have M0 : Hid (rdM d.length wr r = d.length + 1 - p) := by show _ = _; rw [rdM_of hT.out.rd, if_pos rfl]
    have P1 : Hid (∀ W, Rd W r d p 0 → Calls Tryz.prog 134 #[.pointer (some ⟨r, 0, none⟩)] W fun v w' => v = .returned (pv x) ∧ Rd w' r d p' e' ∧ Keep (fun k => k ≠ r) W w') := fun W h => by
     have := readpiece_any h hT.out.le (by have := H2.out.2.2.2.2; omega)
     rw [hx] at this; exact this
    have P2 : Hid (∀ W, _) := Lib.hid (fun W => dright_any b x W H2.out.2.2.1 hsm)
    have P3 : Hid (∀ W, _) := Lib.hid (fun W => size_any x W hsm)
    have HX := Lib.hid hx
    clear hx hsm
    unfold pv cpv at P1 P2 P3
    have AP : Hid (∀ W, OwnZ W w1.heap.size v l → w1.heap.size ≤ W.heap.size → ∃ g cap w', (Builtin.append_ #[159, 159] 159 #[v, .slice (some ⟨W.heap.size, 0, none⟩) 1 1]).run Tryz.prog (W.alloc (.cells #[.complex .f64 (FB (x.p : Int)) (FB (x.n : Int)), .string (bs x.t)] 189)) = .ok (.slice (some ⟨g, 0, none⟩) (l.length + 1) cap) w' ∧
     OwnZ w' w1.heap.size (.slice (some ⟨g, 0, none⟩) (l.length + 1) cap) (l ++ [x]) ∧ Below w1.heap.size W w') := fun W h1 h2 => app_z x h1 h2 (by have := hT.out.few; have := H2.out.2.2.2.1; omega)
    generalize FB (x.p : Int) = P at *
    generalize FB (x.n : Int) = N at *
    generalize hS : bs x.t = sx at *
    clear hS
    go_wp2_with fail
    refine HHE.out.mono ?_
    rintro v' w4 ⟨rfl, B4⟩
    have T4 := Lib.hid (hT.out.below B4)
    clear B4 hT HHE
    go_wp2_with fail
    refine (P1.out _ T4.out.rd).mono ?_
    rintro v' w5 ⟨rfl, R5, K5⟩
    have S5 := Lib.hid (T4.out.read HZ.out R5 K5)
    clear R5 K5 P1
    have B5a := (Below.refl w5.heap.size w5).alloc (Nat.le_refl _) (.cells #[.complex .f64 P N, .string sx] 189)
    have S6 := Lib.hid (S5.out.below B5a)
    clear B5a S5
    go_wp2_with fail
    refine (P2.out _).mono ?_
    rintro v' w6 ⟨rfl, B6⟩
    have S7 := Lib.hid (S6.out.below B6)
    have d0 : w6.cell? ⟨w5.heap.size, 0, none⟩ = some (.complex .f64 P N) := by rw [B6.cell (by simp)]; exact cell_of_row _ _ _ _ _ _ (heap_alloc_new _ _)
    have d1 : w6.cell? ⟨w5.heap.size, 1, none⟩ = some (.string sx) := by rw [B6.cell (by simp)]; exact cell_of_row _ _ _ _ _ _ (heap_alloc_new _ _)
    have LT5 : Hid (w5.heap.size < w6.heap.size) := by have := B6.size; show _ < _; simp at this; omega
    clear B6 S6
    by_cases hg : good b x
    ·have tg : decide (good b x) = true := decide_eq_true hg
     have HG := Lib.hid hg
     clear hg P2
     go_wp2_with fail
     refine (P3.out _).mono ?_
     rintro v' w7 ⟨rfl, B7⟩
     have S8 := Lib.hid (S7.out.below B7)
     have e0 : w7.cell? ⟨w5.heap.size, 0, none⟩ = some (.complex .f64 P N) := by rw [B7.cell LT5.out]; exact d0
     have e1 : w7.cell? ⟨w5.heap.size, 1, none⟩ = some (.string sx) := by rw [B7.cell LT5.out]; exact d1
     clear B7 d0 d1 P3 S7
     have zs := sz_le HG.out
     have lm := T4.out.few
     have mm := H2.out.2.2.2.1
     by_cases hs : sz x ≤ left
     ·have w8 : IntKind.i64.wrap ((left : Int) - (sz x : Int)) = ((left - sz x : Nat) : Int) := by rw [show (left : Int) - (sz x : Int) = ((left - sz x : Nat) : Int) by omega]; exact IntWalk.i64_in _ (by omega)
      obtain ⟨g, cap, w9, hr, O9, L9⟩ := AP.out w7 S8.out.2.1 S8.out.2.2.2
      have le' : p' ≤ d.length := by have := rpz_le big big d p 0 T4.out.le; rw [HX.out] at this; exact this
      have fv' : e' ≠ 5 := by have := rpz_five big big d p 0 (by decide); rw [HX.out] at this; exact this
      have T9 : Hid (RS R b many d r w1.heap.size w (l ++ [x]) (.slice (some ⟨g, 0, none⟩) (l.length + 1) cap) p' e' (left - sz x) w9) :=
       ⟨S8.out.1.keep (Keep.of_below (K := fun k => k = r) L9 (fun k hk _ => by have := HZ.out.2; omega)) rfl, le', fv', T4.out.ip.step HP.out HX.out HG.out hs, O9, by rw [List.length_append, List.length_singleton]; omega, S8.out.2.2.1.trans (L9.mono (by have := HZ.out; omega)), Nat.le_trans S8.out.2.2.2 L9.size⟩
      have M9 : Hid (rdM d.length w9 r < rdM d.length wr r) := by
       show _ < _
       rw [M0.out, rdM_of T9.out.rd]
       have hp := HP.out
       by_cases c : e' = 0
       ·have := rpz_moves (m1 := big) (m2 := big) (d := d) (p := p) (by rw [HX.out]; exact c)
        rw [HX.out] at this
        rw [if_pos c]
        have : p < p' := this
        omega
       ·rw [if_neg c]; omega
      have tn : decide (((left - sz x : Nat) : Int) < 0) = false := decide_eq_false (by omega)
      clear O9 L9 le' fv' zs lm mm hs AP S8 T4 M0 HX tg
      generalize hq : left - sz x = ln at *
      clear hq
      go_wp2_with (at_builtin; refine wpList_append_run rfl (.tmp 31) (.tmp 33) 159 159 rfl _ _ _ _ rfl rfl hr ?_)
      clear hr e0 e1
      go_wp2
      go_roundw
      case rel => exact ⟨_, _, _, _, _, rfl, rfl, T9⟩
      case measure => exact M9.out
     ·obtain ⟨ln, hln⟩ : ∃ ln : Int, ln = (left : Int) - (sz x : Int) := ⟨_, rfl⟩
      have w8 : IntKind.i64.wrap ((left : Int) - (sz x : Int)) = ln := by rw [hln]; exact IntWalk.i64_in _ (by omega)
      have tn : ln < 0 := by omega
      have RN := Lib.hid (T4.out.ip.bad HP.out HX.out (fun h => hs h.2))
      clear AP zs lm mm hs T4 M0 HX tg hln
      go_wp2
      go_step3
      exact ⟨rfl, by rw [RN.out]; rfl, S8.out.2.2.1, _, _, _, _, _, _, _, _, _, _, _, _, _, _, _, _, _, _, _, _, _, _, _, _, _, _, _, _, _, _, _, _, _, _, _, _, _, _, _, _, _, _, _, _, rfl⟩
    ·have tg : decide (good b x) = false := decide_eq_false hg
     have RN := Lib.hid (T4.out.ip.bad HP.out HX.out (fun h => hg h.1))
     clear hg P2 P3 AP d0 d1
     go_wp2
     go_step3
     exact ⟨rfl, by rw [RN.out]; rfl, S7.out.2.2.1, _, _, _, _, _, _, _, _, _, _, _, _, _, _, _, _, _, _, _, _, _, _, _, _, _, _, _, _, _, _, _, _, _, _, _, _, _, _, _, _, _, _, _, _, rfl⟩
   ·by_cases h0 : e = 0 ∧ p = d.length
    ·rw [(end_ok hT.out.le).2 h0] at HE
     obtain ⟨rfl, rfl⟩ := h0
     have HHE := Lib.hid HE
     have FIN := hT.out.ip.fin (Nat.le_refl _)
     by_cases hz : left = 0
     ·subst hz
      rw [if_pos rfl] at FIN
      have HF := Lib.hid FIN
      clear FIN HE h5
      go_wp2_with fail
      refine HHE.out.mono ?_
      rintro v' w4 ⟨rfl, B4⟩
      have T4 := Lib.hid (hT.out.below B4)
      clear B4 hT
      go_wp2_with fail
      have HE2 := end_any T4.out.rd
      rw [(end_ok T4.out.le).2 ⟨rfl, rfl⟩] at HE2
      refine HE2.mono ?_
      rintro v' w5 ⟨rfl, B5⟩
      have T5 := Lib.hid (T4.out.below B5)
      clear B5 T4 HE2 HHE
      go_wp2
      simp only [exitJumps]
      go_ret3
      refine ⟨?_, T5.out.all⟩
      rw [HF.out]
      exact ⟨v, rfl, T5.out.own.mono (by have := HZ.out; omega)⟩
     ·rw [if_neg hz] at FIN
      have RN := Lib.hid FIN
      have t3 : (0 : Int) < (left : Int) := by omega
      clear FIN HE h5 hz
      go_wp2_with fail
      refine HHE.out.mono ?_
      rintro v' w4 ⟨rfl, B4⟩
      have T4 := Lib.hid (hT.out.below B4)
      clear B4 hT
      go_wp2_with fail
      have HE2 := end_any T4.out.rd
      rw [(end_ok T4.out.le).2 ⟨rfl, rfl⟩] at HE2
      refine HE2.mono ?_
      rintro v' w5 ⟨rfl, B5⟩
      have T5 := Lib.hid (T4.out.below B5)
      clear B5 T4 HE2 HHE
      go_wp2
      go_step3
      exact ⟨rfl, by rw [RN.out]; rfl, T5.out.all, _, _, _, _, _, _, _, _, _, _, _, _, _, _, _, _, _, _, _, _, _, _, _, _, _, _, _, _, _, _, _, _, _, _, _, _, _, _, _, _, _, _, _, _, rfl⟩
    ·have ne0 : e ≠ 0 := by
      have := hT.out.le
      intro c
      by_cases c2 : p = d.length
      ·exact h0 ⟨c, c2⟩
      ·exact h5 ⟨c, by omega⟩
     have RN := Lib.hid (hT.out.ip.err ne0)
     have hE5 : ¬ endOf d.length p e = 5 := fun h => h5 ((end_is hT.out.five).1 h)
     have hE0 : ¬ endOf d.length p e = 0 := fun h => h0 ((end_ok hT.out.le).1 h)
     obtain ⟨E, hE⟩ : ∃ E, E = endOf d.length p e := ⟨_, rfl⟩
     rw [← hE] at HE hE5 hE0
     have HEE := Lib.hid hE
     have HHE := Lib.hid HE
     have t1 : (E == 5) = false := by simpa using hE5
     have t2 : (E != 0) = true := by simpa using hE0
     clear HE h5 h0 ne0 hE hE5 hE0
     go_wp2_with fail
     refine HHE.out.mono ?_
     rintro v' w4 ⟨rfl, B4⟩
     have T4 := Lib.hid (hT.out.below B4)
     clear B4 hT
     go_wp2_with fail
     have HE2 := end_any T4.out.rd
     rw [← HEE.out] at HE2
     refine HE2.mono ?_
     rintro v' w5 ⟨rfl, B5⟩
     have T5 := Lib.hid (T4.out.below B5)
     clear B5 T4 HE2 HHE HEE
     go_wp2
     go_step3
     exact ⟨rfl, by rw [RN.out]; rfl, T5.out.all, _, _, _, _, _, _, _, _, _, _, _, _, _, _, _, _, _, _, _, _, _, _, _, _, _, _, _, _, _, _, _, _, _, _, _, _, _, _, _, _, _, _, _, _, rfl⟩
 ·rintro lab a w' ⟨rfl, hN, hB, u0, u1, u2, u3, u4, u5, u6, u7, u8, u9, u10, u11, u12, u13, u14, u15, u16, u17, u18, u19, u20, u21, u22, u23, u24, u25, u26, u27, u28, u29, u30, u31, u32, u33, u34, u35, u36, u37, u38, u39, u40, u41, u42, u43, rfl⟩
  have RN := Lib.hid hN
  have HB := Lib.hid hB
  clear hN hB
  refine ⟨_, rfl, wp_seq (wp_skip ?_)⟩
  go_wp2
  simp only [exitJumps]
  go_ret3
  refine ⟨?_, HB.out⟩
  rw [RN.out]
  rfl
end Go.Proofs.YtnmjcpoobabjgaaGreatDoor
/- What a delta makes of a text. -/
namespace Go.Proofs.YtnmjcpoobabjgaaGreatDoor
set_option maxRecDepth 100000
open Go.RowKit
theorem good_small {b : Nat} {x : Pz} (hb : b ≤ 4099) (h : good b x) : small x := by
  unfold good at h
  unfold small
  by_cases c : x.raw
  · exact ⟨by rw [c.1]; omega, by rw [c.2]; omega⟩
  · rw [if_neg c] at h
    omega
/- what is made: the text, the error -/
def aRes (B d : List UInt8) : List UInt8 × Int := match dRead d with | none => ([], 2) | some x => if B.length = x.1 then (tzs B x.2, 0) else ([], 19)
set_option maxHeartbeats 1000000 in
theorem apply_any (B d : List UInt8) (w : World) (hB : B.length ≤ 1000000) (hl : d.length ≤ 1000000000) :
    Calls Tryz.prog 104 #[.string (bs B), .string (bs d)] w fun e w' => e = .returned (.tuple #[.string (bs (aRes B d).1), .int .i64 (aRes B d).2]) ∧ Below w.heap.size w w' := by
  have C1 : Hid (∀ W, _) := Lib.hid (fun W => dread_any d W hl)
  have hz := bs_size B
  unfold aRes
  cases hd : dRead d with
  | none =>
    dsimp only
    rw [hd] at C1
    have e0 : bs [] = ⟨#[]⟩ := rfl
    rw [e0]
    generalize bs B = sB at *
    generalize bs d = sd at *
    clear hz hB hl hd
    go_enter Tryz.func104, Tryz.ntmps104
    go_wp2_with fail
    refine (C1.out _).mono ?_
    rintro e w1 ⟨he, B1⟩
    have he2 : e = .returned (.tuple #[.int .i64 0, .slice none 0 0, .int .i64 2]) := he
    subst he2
    have L1 := Lib.hid B1
    clear he B1 C1
    go_wp2
    go_ret2
    exact ⟨rfl, L1.out⟩
  | some x =>
    obtain ⟨b, l⟩ := x
    obtain ⟨hb, hg, hs⟩ := dRead_good hd
    dsimp only
    rw [hd] at C1
    by_cases c : B.length = b
    · rw [if_pos c]
      subst c
      have C2 : Hid (∀ W v, RowZ W v l → Calls Tryz.prog 122 #[.string (bs B), v] W fun e w' => e = .returned (.tuple #[.string (bs (tzs B l)), .int .i64 0]) ∧ Below W.heap.size W w') := fun W v h => text_any B l v W hb h hg (fun x hx => good_small hb (hg x hx)) hs
      have ht : ((bs B).size : Int) = (B.length : Int) := by rw [hz]
      generalize bs B = sB at *
      generalize bs d = sd at *
      generalize bs (tzs B l) = st at *
      clear hB hl hd hb hg hs
      go_enter Tryz.func104, Tryz.ntmps104
      go_wp2_with fail
      refine (C1.out _).mono ?_
      rintro e w1 ⟨⟨v, he, hO⟩, B1⟩
      have he2 : e = .returned (.tuple #[.int .i64 (B.length : Int), v, .int .i64 0]) := he
      subst he2
      have L1 := Lib.hid B1
      have R1 : Hid (RowZ w1 v l) := hO.row
      clear he hO B1 C1
      go_wp2_with fail
      refine (C2.out _ _ R1.out).mono ?_
      rintro e w2 ⟨rfl, B2⟩
      have L2 := Lib.hid (L1.out.trans (B2.mono L1.out.size))
      clear B2 C2
      go_wp2
      go_ret2
      exact ⟨rfl, L2.out⟩
    · rw [if_neg c]
      have e0 : bs [] = ⟨#[]⟩ := rfl
      dsimp only
      rw [e0]
      have h2 : ¬ ((B.length : Int) = (b : Int)) := by omega
      have ht : (((bs B).size : Int) != (b : Int)) = true := by rw [hz]; simpa using h2
      generalize bs B = sB at *
      generalize bs d = sd at *
      clear hB hl hd hb hg hs hz c h2
      go_enter Tryz.func104, Tryz.ntmps104
      go_wp2_with fail
      refine (C1.out _).mono ?_
      rintro e w1 ⟨⟨v, he, hO⟩, B1⟩
      have he2 : e = .returned (.tuple #[.int .i64 (b : Int), v, .int .i64 0]) := he
      subst he2
      have L1 := Lib.hid B1
      clear he hO B1 C1
      go_wp2
      go_ret2
      exact ⟨rfl, L1.out⟩
end Go.Proofs.YtnmjcpoobabjgaaGreatDoor
/- Lists of parts, plainly: the way from a part to a plain one, its text; all texts; parts that are made of texts. -/
namespace Go.Proofs.YtnmjcpoobabjgaaGreatDoor
set_option maxRecDepth 100000
open Go.RowKit
/- a part -/
structure Pt where
  d : Bool
  b : Int
  t : List UInt8
def zp : Pt := ⟨false, 0, []⟩
/- may a part's base be, at its place? -/
def fm (p : Pt) (at_ : Int) : Bool := if p.d then decide (0 ≤ p.b) && decide (p.b < at_) else decide (p.b = 0)
/- the way from a place on, of at most k places; the error -/
def al (l : List Pt) : Nat → Nat → List Nat × Int
  | 0, at_ => if fm (l.getD at_ zp) at_ then ([], 11) else ([], 2)
  | k + 1, at_ => if fm (l.getD at_ zp) at_ then (if (l.getD at_ zp).d then (if (al l k (l.getD at_ zp).b.toNat).2 = 0 then (at_ :: (al l k (l.getD at_ zp).b.toNat).1, 0) else ([], (al l k (l.getD at_ zp).b.toNat).2)) else ([at_], 0)) else ([], 2)
/- what is known behind some places -/
def pre (way : List Nat) (r : List Nat × Int) : List Nat × Int := if r.2 = 0 then (way ++ r.1, 0) else ([], r.2)
theorem pre_nil {r : List Nat × Int} (h : r.2 ≠ 0 → r.1 = []) : pre [] r = r := by
  obtain ⟨a, b⟩ := r
  unfold pre
  by_cases c : b = 0
  · subst c; rfl
  · have := h c
    simp only at this
    subst this
    rw [if_neg c]
theorem al_err (l : List Pt) (k at_ : Nat) : (al l k at_).2 ≠ 0 → (al l k at_).1 = [] := by
  cases k with
  | zero => unfold al; split <;> simp
  | succ k =>
    unfold al
    split
    · split
      · split
        · simp
        · simp
      · simp
    · simp
theorem al_wrong {l : List Pt} {k at_ : Nat} (h : fm (l.getD at_ zp) at_ = false) : al l k at_ = ([], 2) := by
  cases k <;> (unfold al; rw [h]; rfl)
theorem al_deep {l : List Pt} {at_ : Nat} (h : fm (l.getD at_ zp) at_ = true) : al l 0 at_ = ([], 11) := by unfold al; rw [if_pos h]
theorem al_plain {l : List Pt} {k at_ : Nat} (h : fm (l.getD at_ zp) at_ = true) (hd : (l.getD at_ zp).d = false) : al l (k + 1) at_ = ([at_], 0) := by
  unfold al; rw [if_pos h, if_neg (by rw [hd]; decide)]
theorem al_delta {l : List Pt} {k at_ : Nat} (h : fm (l.getD at_ zp) at_ = true) (hd : (l.getD at_ zp).d = true) (way : List Nat) : pre way (al l (k + 1) at_) = pre (way ++ [at_]) (al l k (l.getD at_ zp).b.toNat) := by
  have e : al l (k + 1) at_ = if (al l k (l.getD at_ zp).b.toNat).2 = 0 then (at_ :: (al l k (l.getD at_ zp).b.toNat).1, 0) else ([], (al l k (l.getD at_ zp).b.toNat).2) := by
    conv => lhs; unfold al
    rw [if_pos h, if_pos hd]
  rw [e]
  unfold pre
  generalize al l k (l.getD at_ zp).b.toNat = r
  by_cases c : r.2 = 0
  · rw [if_pos c, if_pos c, if_pos rfl, List.append_assoc]; rfl
  · rw [if_neg c, if_neg c, if_neg c]
theorem fm_delta {p : Pt} {at_ : Nat} (h : fm p at_ = true) (hd : p.d = true) : 0 ≤ p.b ∧ p.b < at_ ∧ p.b.toNat < at_ := by
  unfold fm at h
  rw [if_pos hd] at h
  simp only [Bool.and_eq_true, decide_eq_true_eq] at h
  omega
theorem fm_plain {p : Pt} {at_ : Nat} (h : fm p at_ = true) (hd : p.d = false) : p.b = 0 := by
  unfold fm at h
  rw [hd] at h
  simpa using h
/- the way of a part: its places, the error -/
def wayR (l : List Pt) (at_ : Int) : List Nat × Int := if 200 < l.length ∨ at_ < 0 ∨ (l.length : Int) ≤ at_ then ([], 1) else al l 5 at_.toNat
/- what is told of a part whose base has a text -/
def tlq (p : Pt) (B : List UInt8) : List UInt8 × Int := if p.d then aRes B p.t else if 4099 < p.t.length then ([], 19) else (p.t, 0)
/- a part's text -/
def txq (l : List Pt) (at_ : Nat) : List UInt8 × Int :=
  if (l.getD at_ zp).d then
    if _h : (l.getD at_ zp).b.toNat < at_ then
      if (txq l (l.getD at_ zp).b.toNat).2 = 0 then tlq (l.getD at_ zp) (txq l (l.getD at_ zp).b.toNat).1 else ([], (txq l (l.getD at_ zp).b.toNat).2)
    else ([], 2)
  else tlq (l.getD at_ zp) []
termination_by at_
decreasing_by all_goals omega
theorem txq_plain {l : List Pt} {at_ : Nat} (hd : (l.getD at_ zp).d = false) (B : List UInt8) : txq l at_ = tlq (l.getD at_ zp) B := by
  rw [txq, if_neg (by rw [hd]; decide)]
  unfold tlq
  rw [hd]
  rfl
theorem txq_delta {l : List Pt} {at_ : Nat} (hd : (l.getD at_ zp).d = true) (h : (l.getD at_ zp).b.toNat < at_) : txq l at_ = if (txq l (l.getD at_ zp).b.toNat).2 = 0 then tlq (l.getD at_ zp) (txq l (l.getD at_ zp).b.toNat).1 else ([], (txq l (l.getD at_ zp).b.toNat).2) := by
  rw [txq, if_pos hd, dif_pos h]
theorem tlq_err (p : Pt) (B : List UInt8) : (tlq p B).2 ≠ 0 → (tlq p B).1 = [] := by
  unfold tlq aRes
  split
  · cases dRead p.t with
    | none => intro _; rfl
    | some x =>
      dsimp only
      split
      · intro h; exact absurd rfl h
      · intro _; rfl
  · split
    · intro _; rfl
    · intro h; exact absurd rfl h
theorem txq_err (l : List Pt) (at_ : Nat) : (txq l at_).2 ≠ 0 → (txq l at_).1 = [] := by
  rw [txq]
  split
  · split
    · split
      · exact tlq_err _ _
      · intro _; rfl
    · intro _; rfl
  · exact tlq_err _ _
/- a part's text as it is told; the error -/
def textR (l : List Pt) (at_ : Int) : List UInt8 × Int := if (wayR l at_).2 = 0 then txq l at_.toNat else ([], (wayR l at_).2)
/- a way's places: each one's base is the next one, the last one is plain -/
inductive Way9 (l : List Pt) : List Nat → Prop
  | one {at_ : Nat} : at_ < l.length → fm (l.getD at_ zp) at_ = true → (l.getD at_ zp).d = false → Way9 l [at_]
  | more {at_ : Nat} {p : List Nat} : at_ < l.length → fm (l.getD at_ zp) at_ = true → (l.getD at_ zp).d = true → Way9 l ((l.getD at_ zp).b.toNat :: p) → Way9 l (at_ :: (l.getD at_ zp).b.toNat :: p)
theorem al_way {l : List Pt} : ∀ (k at_ : Nat), at_ < l.length → (al l k at_).2 = 0 → Way9 l (al l k at_).1 ∧ (al l k at_).1.head? = some at_ ∧ (al l k at_).1.length ≤ k := by
  intro k
  induction k with
  | zero => intro at_ _ h; unfold al at h; split at h <;> simp at h
  | succ k ih =>
    intro at_ hat h
    by_cases hf : fm (l.getD at_ zp) at_ = true
    · by_cases hd : (l.getD at_ zp).d = true
      · obtain ⟨h0, h1, h2⟩ := fm_delta hf hd
        have e := al_delta (k := k) hf hd []
        rw [pre_nil (al_err l _ _)] at e
        rw [e] at h ⊢
        unfold pre at h ⊢
        by_cases c : (al l k (l.getD at_ zp).b.toNat).2 = 0
        · rw [if_pos c]
          obtain ⟨i1, i2, i3⟩ := ih _ (by omega) c
          cases hp : (al l k (l.getD at_ zp).b.toNat).1 with
          | nil => rw [hp] at i2; simp at i2
          | cons q p =>
            rw [hp] at i1 i2 i3
            simp only [List.head?_cons, Option.some.injEq] at i2
            subst i2
            simp only [List.length_cons] at i3
            exact ⟨.more hat hf hd i1, rfl, by simp; omega⟩
        · rw [if_neg c] at h; exact absurd h c
      · have hd' : (l.getD at_ zp).d = false := by simpa using hd
        rw [al_plain hf hd'] at h ⊢
        exact ⟨.one hat hf hd', rfl, by simp⟩
    · rw [al_wrong (by simpa using hf)] at h
      simp at h
theorem wayR_way {l : List Pt} {at_ : Int} (h : (wayR l at_).2 = 0) : 0 ≤ at_ ∧ at_ < l.length ∧ l.length ≤ 200 ∧ Way9 l (wayR l at_).1 ∧ (wayR l at_).1.head? = some at_.toNat ∧ (wayR l at_).1.length ≤ 5 := by
  unfold wayR at *
  split at h
  · simp at h
  · rename_i c
    rw [if_neg c]
    obtain ⟨h1, h2, h3⟩ := al_way 5 at_.toNat (by omega) h
    exact ⟨by omega, by omega, by omega, h1, h2, h3⟩
/- the answers of a function, one behind the other: all, or the first error -/
def allR (f : Nat → List UInt8 × Int) : Nat → List (List UInt8) × Int
  | 0 => ([], 0)
  | n + 1 => if (allR f n).2 = 0 then (if (f n).2 = 0 then ((allR f n).1 ++ [(f n).1], 0) else ([], (f n).2)) else ([], (allR f n).2)
theorem allR_ok {f : Nat → List UInt8 × Int} {n : Nat} (h : (allR f n).2 = 0) : (allR f n).1 = (List.range n).map (fun i => (f i).1) ∧ ∀ i, i < n → (f i).2 = 0 := by
  induction n with
  | zero => exact ⟨rfl, fun i hi => by omega⟩
  | succ n ih =>
    unfold allR at h ⊢
    by_cases c : (allR f n).2 = 0
    · rw [if_pos c] at h ⊢
      by_cases c2 : (f n).2 = 0
      · rw [if_pos c2]
        obtain ⟨i1, i2⟩ := ih c
        refine ⟨?_, fun i hi => ?_⟩
        · dsimp only
          rw [i1, List.range_succ, List.map_append]
          rfl
        · by_cases e : i = n
          · subst e; exact c2
          · exact i2 i (by omega)
      · rw [if_neg c2] at h; exact absurd h c2
    · rw [if_neg c] at h; exact absurd h c
theorem allR_err {f : Nat → List UInt8 × Int} {n : Nat} (h : (allR f n).2 ≠ 0) : (allR f n).1 = [] := by
  cases n with
  | zero => exact absurd rfl h
  | succ n =>
    unfold allR at h ⊢
    split
    · rename_i c
      rw [if_pos c] at h
      split
      · rename_i c2; rw [if_pos c2] at h; exact absurd rfl h
      · rfl
    · rfl
theorem allR_more {f : Nat → List UInt8 × Int} {n : Nat} (h : (allR f n).2 ≠ 0) (k : Nat) : allR f (n + k) = ([], (allR f n).2) := by
  induction k with
  | zero => rw [Nat.add_zero, ← allR_err h]
  | succ k ih =>
    rw [← Nat.add_assoc, allR, ih]
    rw [if_neg h]
theorem allR_first {f : Nat → List UInt8 × Int} {n i : Nat} (hi : i < n) (h0 : (allR f i).2 = 0) (h : (f i).2 ≠ 0) : allR f n = ([], (f i).2) := by
  have e : allR f (i + 1) = ([], (f i).2) := by rw [allR, if_pos h0, if_neg h]
  have := allR_more (f := f) (n := i + 1) (by rw [e]; exact h) (n - (i + 1))
  rw [show i + 1 + (n - (i + 1)) = n by omega, e] at this
  exact this
/- all parts' texts -/
def allT (l : List Pt) : List (List UInt8) × Int := allR (fun i => textR l (i : Int)) l.length
end Go.Proofs.YtnmjcpoobabjgaaGreatDoor
/- A beginning of a right list is right, with the same texts. -/
namespace Go.Proofs.YtnmjcpoobabjgaaGreatDoor
set_option maxRecDepth 100000
open Go.RowKit
theorem allT_len {l : List Pt} (h : (allT l).2 = 0) : l.length ≤ 200 ∧ (allT l).1.length = l.length := by
  unfold allT at h
  obtain ⟨h1, h2⟩ := allR_ok h
  refine ⟨?_, ?_⟩
  · by_cases c : l.length ≤ 200
    · exact c
    · exfalso
      have h3 := h2 0 (by omega)
      unfold textR wayR at h3
      rw [if_pos (Or.inl (by omega))] at h3
      simp at h3
  · unfold allT
    rw [h1]; simp
end Go.Proofs.YtnmjcpoobabjgaaGreatDoor
/- Packs plainly: the bytes of parts; reading them, whole and cut. -/
namespace Go.Proofs.YtnmjcpoobabjgaaGreatDoor
set_option maxRecDepth 100000
open Go.RowKit
def mark : List UInt8 := [83, 80, 75, 49]
/- how far a part's base is ahead of it; a part's bytes -/
def ahd (p : Pt) (i : Nat) : Int := if p.d then (i : Int) - p.b else 0
def pbt (p : Pt) (i : Nat) : List UInt8 := dg (clamp (ahd p i)) ++ tx p.t
def pbs : List Pt → Nat → List UInt8
  | [], _ => []
  | p :: r, i => pbt p i ++ pbs r (i + 1)
def bodyB (l : List Pt) : List UInt8 := mark ++ (dg (clamp (l.length : Int)) ++ pbs l 0)
theorem pbs_snoc (x : Pt) : ∀ (l : List Pt) (i : Nat), pbs (l ++ [x]) i = pbs l i ++ pbt x (i + l.length)
  | [], i => by simp [pbs]
  | p :: r, i => by
    show pbt p i ++ pbs (r ++ [x]) (i + 1) = (pbt p i ++ pbs r (i + 1)) ++ _
    rw [pbs_snoc x r (i + 1), List.append_assoc, List.length_cons, show i + 1 + r.length = i + (r.length + 1) by omega]
theorem pbs_take {l : List Pt} {k : Nat} (h : k < l.length) : pbs (l.take (k + 1)) 0 = pbs (l.take k) 0 ++ pbt (l.getD k zp) k := by
  have e : l.take (k + 1) = l.take k ++ [l.getD k zp] := by
    rw [List.take_add_one, List.getElem?_eq_getElem h, List.getD_eq_getElem?_getD, List.getElem?_eq_getElem h]; rfl
  rw [e, pbs_snoc, List.length_take, Nat.min_eq_left (by omega), Nat.zero_add]
/- a part that is read at a place of the bytes; at its place in the list -/
def rpt (d : List UInt8) (p i : Nat) : Pt × Nat × Int :=
  (⟨decide (0 < (rNum 200 d p 0).1), if 0 < (rNum 200 d p 0).1 then (i : Int) - ((rNum 200 d p 0).1 : Int) else 0, (rText 65536 d (rNum 200 d p 0).2.1 (rNum 200 d p 0).2.2).1⟩,
   (rText 65536 d (rNum 200 d p 0).2.1 (rNum 200 d p 0).2.2).2.1, (rText 65536 d (rNum 200 d p 0).2.1 (rNum 200 d p 0).2.2).2.2)
/- parts that are read: they, where each begins, where the reading ended, whether all were there -/
def rps (d : List UInt8) : Nat → Nat → Nat → List Pt × List Nat × Nat × Bool
  | 0, p, _ => ([], [], p, true)
  | k + 1, p, i => if (rpt d p i).2.2 = 0 then ((rpt d p i).1 :: (rps d k (rpt d p i).2.1 (i + 1)).1, p :: (rps d k (rpt d p i).2.1 (i + 1)).2.1, (rps d k (rpt d p i).2.1 (i + 1)).2.2.1, (rps d k (rpt d p i).2.1 (i + 1)).2.2.2) else ([], [], p, false)
/- what the bytes say: the parts, where each begins, whether these are all and nothing stands behind -/
def prd (d : List UInt8) : List Pt × List Nat × Bool :=
  if d.take 4 = mark ∧ (rNum 200 d 4 0).2.2 = 0 then
    ((rps d (rNum 200 d 4 0).1 (rNum 200 d 4 0).2.1 0).1, (rps d (rNum 200 d 4 0).1 (rNum 200 d 4 0).2.1 0).2.1, (rps d (rNum 200 d 4 0).1 (rNum 200 d 4 0).2.1 0).2.2.2 && decide (d.length ≤ (rps d (rNum 200 d 4 0).1 (rNum 200 d 4 0).2.1 0).2.2.1))
  else ([], [], false)
theorem mark_raw (d : List UInt8) : (rRaw 4 d 0 0).1 = mark ↔ d.take 4 = mark := by
  unfold rRaw
  rw [if_neg (by simp), if_neg (by omega)]
  by_cases c : (4 : Int) > (d.length : Int) - 0
  · rw [if_pos (by simpa using c)]
    refine ⟨fun h => (by cases h), fun h => ?_⟩
    have := congrArg List.length h
    rw [List.length_take] at this
    simp [mark] at this
    omega
  · rw [if_neg (by simpa using c)]
    simp
theorem mark_raw_at {d : List UInt8} (h : d.take 4 = mark) : rRaw 4 d 0 0 = (mark, 4, 0) := by
  have := raw_read (l := d) (s := mark) (R := d.drop 4) (p := 0) (n := 4) (by rw [List.drop_zero, ← h, List.take_append_drop]) (Nat.zero_le _) rfl
  exact this
/- a part that can be written and read -/
def okP (x : Pt) (i : Nat) : Prop := (x.d = true → 0 < ahd x i ∧ ahd x i ≤ 200) ∧ (x.d = false → x.b = 0) ∧ x.t.length ≤ 65536
def okPs : List Pt → Nat → Prop
  | [], _ => True
  | x :: r, i => okP x i ∧ okPs r (i + 1)
def spt : List Pt → Nat → Nat → List Nat
  | [], _, _ => []
  | x :: r, p, i => p :: spt r (p + (pbt x i).length) (i + 1)
theorem ahd_clamp {x : Pt} {i : Nat} (h : okP x i) : clamp (ahd x i) ≤ 1099511627775 ∧ ((clamp (ahd x i) : Nat) : Int) ≤ 200 ∧ (x.d = true ↔ 0 < clamp (ahd x i)) ∧ (x.d = true → (i : Int) - ((clamp (ahd x i) : Nat) : Int) = x.b) := by
  cases hd : x.d with
  | false =>
    have e : ahd x i = 0 := by unfold ahd; rw [hd]; rfl
    rw [e]
    have : clamp 0 = 0 := rfl
    rw [this]
    exact ⟨by omega, by omega, by simp, by simp⟩
  | true =>
    obtain ⟨h1, h2⟩ := h.1 hd
    have e : clamp (ahd x i) = (ahd x i).toNat := clamp_of (by omega) (by omega)
    have e2 : ahd x i = (i : Int) - x.b := by unfold ahd; rw [hd]; rfl
    rw [e]
    exact ⟨by omega, by omega, by simp; omega, fun _ => by omega⟩
theorem rpt_pbt {d R : List UInt8} {p i : Nat} {x : Pt} (hp : p ≤ d.length) (h : d.drop p = pbt x i ++ R) (hx : okP x i) : rpt d p i = (x, p + (pbt x i).length, 0) := by
  obtain ⟨h1, h2, h3, h4⟩ := ahd_clamp hx
  have hn : d.drop p = dg (clamp (ahd x i)) ++ (tx x.t ++ R) := by rw [h, pbt, List.append_assoc]
  have e1 := num_read hn h1 h2
  have hl := drop_len2 hn hp
  simp only [List.length_append] at hl
  have hd2 : d.drop (p + (dg (clamp (ahd x i))).length) = tx x.t ++ R := by rw [drop_add, hn, List.drop_left]
  have e2 := text_read (most := 65536) hd2 (by omega) (by have := hx.2.2; omega) (by have := hx.2.2; omega)
  unfold rpt
  rw [e1]
  dsimp only
  rw [e2]
  dsimp only
  refine Prod.ext ?_ (Prod.ext (by simp only [pbt, List.length_append]; omega) rfl)
  dsimp only
  obtain ⟨xd, xb, xt⟩ := x
  cases xd with
  | false =>
    have b0 : xb = 0 := hx.2.1 rfl
    have : ¬ 0 < clamp (ahd ⟨false, xb, xt⟩ i) := fun h => by have := h3.2 h; cases this
    rw [if_neg this, decide_eq_false this, b0]
  | true =>
    have : 0 < clamp (ahd ⟨true, xb, xt⟩ i) := h3.1 rfl
    rw [if_pos this, decide_eq_true this, h4 rfl]
theorem rps_pbs {d R : List UInt8} : ∀ (L : List Pt) (i p : Nat), okPs L i → p ≤ d.length → d.drop p = pbs L i ++ R → rps d L.length p i = (L, spt L p i, p + (pbs L i).length, true)
  | [], i, p, _, _, _ => by simp [rps, pbs, spt]
  | x :: r, i, p, ho, hp, h => by
    have h' : d.drop p = pbt x i ++ (pbs r (i + 1) ++ R) := by rw [h, pbs, List.append_assoc]
    have e := rpt_pbt hp h' ho.1
    have hl := drop_len2 h' hp
    simp only [List.length_append] at hl
    have ih := rps_pbs (d := d) (R := R) r (i + 1) (p + (pbt x i).length) ho.2 (by omega) (by rw [drop_add, h', List.drop_left])
    rw [List.length_cons, rps, e]
    dsimp only
    rw [if_pos rfl, ih]
    simp only [pbs, spt, List.length_append, Nat.add_assoc]
/- how many parts are whole in the first j bytes -/
theorem trip {α β : Type} {x : α × β × Int} (h : x.2.2 = 0) : ∃ a b, x = (a, b, 0) := by
  obtain ⟨a, b, c⟩ := x
  subst h
  exact ⟨a, b, rfl⟩
theorem rpt_there {d : List UInt8} {p i : Nat} (hp : p ≤ d.length) (h : (rpt d p i).2.2 = 0) : d.take (rpt d p i).2.1 = d.take p ++ pbt (rpt d p i).1 i ∧ (rpt d p i).2.1 ≤ d.length ∧ okP (rpt d p i).1 i ∧ (rpt d p i).2.1 = p + (pbt (rpt d p i).1 i).length := by
  unfold rpt at h ⊢
  dsimp only at h ⊢
  have hne : (rNum 200 d p 0).2.2 = 0 := by
    by_cases c : (rNum 200 d p 0).2.2 = 0
    · exact c
    · rw [text_err c] at h; exact absurd h c
  obtain ⟨n, q, hnq⟩ : ∃ n q, rNum 200 d p 0 = (n, q, 0) := trip hne
  rw [hnq] at h ⊢
  dsimp only at h ⊢
  obtain ⟨n1, n2, n3, n4, n5⟩ := num_there hp hnq
  obtain ⟨s, q2, hsq⟩ : ∃ s q2, rText 65536 d q 0 = (s, q2, 0) := trip h
  rw [hsq]
  dsimp only
  obtain ⟨t1, t2, t3, t4, t5⟩ := text_there n5 hsq
  have ea : ahd ⟨decide (0 < n), if 0 < n then (i : Int) - (n : Int) else 0, s⟩ i = (n : Int) := by
    unfold ahd
    dsimp only
    by_cases c : 0 < n
    · rw [if_pos c, decide_eq_true c, if_pos rfl]; omega
    · rw [decide_eq_false c, if_neg (by decide)]; omega
  have ec : clamp (n : Int) = n := by rw [clamp_of (by omega) (by omega)]; rfl
  have ep : pbt ⟨decide (0 < n), if 0 < n then (i : Int) - (n : Int) else 0, s⟩ i = dg n ++ tx s := by rw [pbt, ea, ec]
  rw [ep]
  refine ⟨by rw [t1, n1, List.append_assoc], t5, ⟨fun hd => ?_, fun hd => ?_, by dsimp only; omega⟩, by rw [t4, n4, List.length_append]; omega⟩
  · dsimp only at hd
    rw [ea]
    have := of_decide_eq_true hd
    omega
  · dsimp only at hd ⊢
    rw [if_neg (of_decide_eq_false hd)]
theorem rps_there {d : List UInt8} : ∀ (k p i : Nat), p ≤ d.length → (rps d k p i).2.2.2 = true →
    d.take (rps d k p i).2.2.1 = d.take p ++ pbs (rps d k p i).1 i ∧ (rps d k p i).2.2.1 ≤ d.length ∧ (rps d k p i).1.length = k ∧ okPs (rps d k p i).1 i ∧ (rps d k p i).2.1 = spt (rps d k p i).1 p i
  | 0, p, i, hp, _ => by simp [rps, pbs, okPs, spt, hp]
  | k + 1, p, i, hp, h => by
    by_cases c : (rpt d p i).2.2 = 0
    · rw [rps, if_pos c] at h ⊢
      dsimp only at h ⊢
      obtain ⟨a1, a2, a3, a4⟩ := rpt_there hp c
      obtain ⟨b1, b2, b3, b4, b5⟩ := rps_there k (rpt d p i).2.1 (i + 1) a2 h
      refine ⟨by rw [b1, a1, pbs, List.append_assoc], b2, by rw [List.length_cons, b3], ⟨a3, b4⟩, ?_⟩
      rw [spt, ← a4, b5]
    · rw [rps, if_neg c] at h; cases h
theorem rps_len {d : List UInt8} : ∀ (k p i : Nat), p ≤ d.length → (rps d k p i).1.length ≤ k ∧ (rps d k p i).2.1.length = (rps d k p i).1.length ∧ (∀ x ∈ (rps d k p i).1, x.t.length ≤ 65536 ∧ x.t.length ≤ d.length) ∧ (rps d k p i).2.2.1 ≤ d.length
  | 0, p, i, hp => by simp [rps, hp]
  | k + 1, p, i, hp => by
    by_cases c : (rpt d p i).2.2 = 0
    · obtain ⟨a1, a2, a3, a4⟩ := rpt_there hp c
      obtain ⟨b1, b2, b3, b4⟩ := rps_len (d := d) k (rpt d p i).2.1 (i + 1) a2
      rw [rps, if_pos c]
      dsimp only
      refine ⟨by simp only [List.length_cons]; omega, by simp only [List.length_cons]; omega, fun x hx => ?_, b4⟩
      rcases List.mem_cons.1 hx with rfl | hx
      · refine ⟨a3.2.2, ?_⟩
        have := congrArg List.length a1
        simp only [List.length_take, List.length_append, pbt, tx_len] at this
        omega
      · exact b3 x hx
    · rw [rps, if_neg c]; simp [hp]
/- the place in a list of parts at which each begins, in the bytes of the whole -/
theorem prd_body {l : List Pt} {R : List UInt8} (h : l.length ≤ 200) (ho : okPs l 0) :
    prd (bodyB l ++ R) = (l, spt l (4 + (dg l.length).length) 0, decide (R.length = 0)) := by
  have c0 : clamp (l.length : Int) = l.length := by rw [clamp_of (by omega) (by omega)]; rfl
  have hb : bodyB l ++ R = mark ++ (dg l.length ++ (pbs l 0 ++ R)) := by rw [bodyB, c0]; simp only [List.append_assoc]
  have h4 : (bodyB l ++ R).take 4 = mark := by rw [hb, List.take_append_of_le_length (by simp [mark])]; rfl
  have hd : (bodyB l ++ R).drop 4 = dg l.length ++ (pbs l 0 ++ R) := by rw [hb]; exact List.drop_left' rfl
  have hlen : (bodyB l ++ R).length = 4 + ((dg l.length).length + ((pbs l 0).length + R.length)) := by rw [hb]; simp only [List.length_append]; rfl
  have e1 := num_read (most := 200) hd (by omega) (by omega)
  have e2 := rps_pbs (d := bodyB l ++ R) (R := R) l 0 (4 + (dg l.length).length) ho (by omega) (by rw [drop_add, hd, List.drop_left])
  generalize bodyB l ++ R = d at h4 e1 e2 hlen
  unfold prd
  rw [e1]
  dsimp only
  rw [if_pos ⟨h4, rfl⟩, e2]
  refine Prod.ext rfl (Prod.ext rfl ?_)
  dsimp only
  rw [Bool.true_and, hlen, decide_eq_decide]
  omega
theorem prd_there {d : List UInt8} (h : (prd d).2.2 = true) : d = bodyB (prd d).1 ∧ (prd d).1.length ≤ 200 ∧ okPs (prd d).1 0 ∧ (prd d).2.1 = spt (prd d).1 (4 + (dg (prd d).1.length).length) 0 := by
  unfold prd at h ⊢
  split at h
  · rename_i c
    rw [if_pos c]
    dsimp only at h ⊢
    rw [Bool.and_eq_true, decide_eq_true_eq] at h
    obtain ⟨hm, he⟩ := c
    have l4 : 4 ≤ d.length := by have := congrArg List.length hm; rw [List.length_take] at this; simp [mark] at this; omega
    obtain ⟨n, q, hnq⟩ : ∃ n q, rNum 200 d 4 0 = (n, q, 0) := trip he
    rw [hnq] at h ⊢
    dsimp only at h ⊢
    obtain ⟨n1, n2, n3, n4, n5⟩ := num_there l4 hnq
    obtain ⟨b1, b2, b3, b4, b5⟩ := rps_there n q 0 n5 h.1
    refine ⟨?_, by omega, b4, by rw [b5, b3, n4]⟩
    have e : d.take (rps d n q 0).2.2.1 = d := List.take_of_length_le h.2
    rw [e, n1, hm] at b1
    have ec : clamp ((rps d n q 0).1.length : Int) = n := by rw [b3, clamp_of (by omega) (by omega)]; rfl
    rw [bodyB, ec]
    rw [List.append_assoc] at b1
    exact b1
  · cases h
theorem prd_len (d : List UInt8) : (prd d).1.length ≤ 200 ∧ (prd d).2.1.length = (prd d).1.length ∧ (∀ x ∈ (prd d).1, x.t.length ≤ 65536) := by
  unfold prd
  split
  · rename_i c
    dsimp only
    have l4 : 4 ≤ d.length := by have := congrArg List.length c.1; rw [List.length_take] at this; simp [mark] at this; omega
    obtain ⟨n, q, hnq⟩ : ∃ n q, rNum 200 d 4 0 = (n, q, 0) := trip c.2
    rw [hnq]
    dsimp only
    obtain ⟨n1, n2, n3, n4, n5⟩ := num_there l4 hnq
    obtain ⟨b1, b2, b3, b4⟩ := rps_len (d := d) n q 0 n5
    exact ⟨by omega, b2, fun x hx => (b3 x hx).1⟩
  · exact ⟨by simp, rfl, fun x hx => by simp at hx⟩
/- a beginning of the bytes -/
/- a part's end, within the bytes of the whole; the count of those that are whole -/
end Go.Proofs.YtnmjcpoobabjgaaGreatDoor
