import Derived.Test.YtekeaoolodmdaaaEO
import Derived.Test.YtekeaoolodmdaaaEQ3
/- What a delta's bytes say, the reference's. -/
namespace Go.Proofs.Ytekeaoolodmdaaa
set_option maxRecDepth 100000
open Go.RowKit
attribute [local go_sem] run_store_complex
def QSaid (o : Option (Nat × List Pz)) (B : Nat) (e : Ending) (w' : World) : Prop :=
  match o with
  | none => e = .returned (.tuple #[.int .i64 0, .slice none 0 0, .bool false])
  | some x => ∃ v, e = .returned (.tuple #[.int .i64 (x.1 : Int), v, .bool true]) ∧ OwnZ w' B v x.2
def rqM (n : Nat) (w : World) (r : Nat) : Nat :=
  match w.cell? ⟨r, 1, none⟩, w.cell? ⟨r, 2, none⟩ with
  | some (.int _ p), some (.int _ e) => if e = 0 then n + 1 - p.toNat else 0
  | _, _ => 0
theorem rqM_of {w : World} {r : Nat} {l : List UInt8} {p : Nat} {e : Int} (h : Rq w r l p e) (n : Nat) : rqM n w r = if e = 0 then n + 1 - p else 0 := by
  unfold rqM
  rw [h.cells.2.1, h.cells.2.2.1]
  simp
structure QS (R : Option (List Pz)) (b many : Nat) (d : List UInt8) (r z : Nat) (w : World) (l : List Pz) (v : Value) (p : Nat) (e : Int) (wr : World) : Prop where
  rd : Rq wr r d p e
  le : p ≤ d.length
  five : e ≠ 5
  iq : IQ R b d many l p e
  own : OwnZ wr z v l
  few : l.length ≤ p + (if e = 0 then 0 else 1)
  all : Below w.heap.size w wr
  zle : z ≤ wr.heap.size
  sm : ∀ x ∈ l, small x
/- between a piece read and one put behind -/
def QT (d : List UInt8) (r z : Nat) (w : World) (l : List Pz) (v : Value) (p : Nat) (e : Int) (W : World) : Prop := Rq W r d p e ∧ OwnZ W z v l ∧ Below w.heap.size w W ∧ z ≤ W.heap.size
theorem QT.below {d : List UInt8} {r z : Nat} {w : World} {l : List Pz} {v : Value} {p : Nat} {e : Int} {W W' : World} (h : QT d r z w l v p e W) (hb : Below W.heap.size W W') : QT d r z w l v p e W' :=
  ⟨h.1.keep (Keep.all (K := fun _ => True) hb) trivial, h.2.1.all hb, h.2.2.1.trans (hb.mono h.2.2.1.size), Nat.le_trans h.2.2.2 hb.size⟩
theorem QT.read {d : List UInt8} {r z : Nat} {w : World} {l : List Pz} {v : Value} {p : Nat} {e : Int} {wr W : World} {p' : Nat} {e' : Int} (h : QT d r z w l v p e wr) (hr : w.heap.size ≤ r ∧ r < z) (hR : Rq W r d p' e') (hk : Keep (fun k => k ≠ r) wr W) : QT d r z w l v p' e' W :=
  ⟨hR, owns_keep h.2.1 hk (fun g hg => by have := own_lt h.2.1 hg; show g ≠ r; omega), h.2.2.1.trans ⟨hk.os, hk.tape, hk.output, hk.size, fun j hj => hk.block j (by show j ≠ r; omega) (Nat.lt_of_lt_of_le hj h.2.2.1.size)⟩, Nat.le_trans h.2.2.2 hk.size⟩
theorem size_set (w : World) (a : Addr) (u : Value) : (w.setCell a u).heap.size = w.heap.size := by simp [World.setCell]
theorem QT.set {d : List UInt8} {r z : Nat} {w : World} {l : List Pz} {v : Value} {p : Nat} {e : Int} {W : World} (h : QT d r z w l v p e W) {q o : Nat} (u : Value) (hq : q ≠ r) (hq2 : w.heap.size ≤ q) (hq3 : v.ownBlock ≠ some q) : QT d r z w l v p e (W.setCell ⟨q, o, none⟩ u) := by
  refine ⟨h.1.keep ((Keep.refl (fun k => k = r) W).setCell hq u) rfl, owns_keep h.2.1 ((Keep.refl (fun k => k ≠ q) W).setCell (fun hn => hn rfl) u) (fun g hg => ?_), h.2.2.1.setCell (p := ⟨q, o, none⟩) hq2 u, ?_⟩
  · intro hn
    subst hn
    exact hq3 hg
  · simp [World.setCell]; exact h.2.2.2
set_option maxHeartbeats 1000000 in
theorem qread_any (d : List UInt8) (w : World) (hl : d.length ≤ 50000) :
    Calls Try.prog 32 #[.string (bs d)] w fun e w' => QSaid (dRead d) w.heap.size e w' ∧ Below w.heap.size w w' := by
  obtain ⟨b, p1, e1, h1⟩ : ∃ b p1 e1, rNum 4099 d 0 0 = (b, p1, e1) := ⟨_, _, _, rfl⟩
  obtain ⟨many, p2, e2, h2⟩ : ∃ many p2 e2, rNum 4099 d p1 e1 = (many, p2, e2) := ⟨_, _, _, rfl⟩
  have l1 : p1 ≤ d.length := by have := rNum_le 4099 d 0 0 (Nat.zero_le _); rw [h1] at this; exact this
  have l2 : p2 ≤ d.length := by have := rNum_le 4099 d p1 e1 l1; rw [h2] at this; exact this
  have f1 : e1 ≠ 5 := by have := num_five 4099 d 0 0 (by decide); rw [h1] at this; exact this
  have f2 : e2 ≠ 5 := by have := num_five 4099 d p1 e1 f1; rw [h2] at this; exact this
  have v1 : b ≤ 4099 := by have := (num_value 4099 d 0 (by decide)).1; rw [h1] at this; dsimp only at this; omega
  have v2 : many ≤ 4099 := by
    by_cases c : e1 = 0
    · subst c; have := (num_value 4099 d p1 (by decide)).1; rw [h2] at this; dsimp only at this; omega
    · rw [num_err c] at h2; simp only [Prod.mk.injEq] at h2; omega
  have C1 : Hid (∀ W r, Rq W r d 0 0 → Calls Try.prog 41 #[.pointer (some ⟨r, 0, none⟩), .int .i64 4099] W fun v w' => v = .returned (.int .i64 (b : Int)) ∧ Rq w' r d p1 e1 ∧ Keep (fun k => k ≠ r) W w') := fun W r hW => by
    have := qnum_any 4099 hW (Nat.zero_le _) (by omega)
    rw [h1] at this; exact this
  have C2 : Hid (∀ W r, Rq W r d p1 e1 → Calls Try.prog 41 #[.pointer (some ⟨r, 0, none⟩), .int .i64 4099] W fun v w' => v = .returned (.int .i64 (many : Int)) ∧ Rq w' r d p2 e2 ∧ Keep (fun k => k ≠ r) W w') := fun W r hW => by
    have := qnum_any 4099 hW l1 (by omega)
    rw [h2] at this; exact this
  have RR : dRead d = if e2 = 0 then (prs b d p2 many).map (fun l => (b, l)) else none := by unfold dRead; rw [h1]; dsimp only; rw [h2]
  rw [RR]
  have HIP : ∃ R, IQ R b d many [] p2 e2 ∧ (if e2 = 0 then (prs b d p2 many).map (fun l => (b, l)) else none) = R.map (fun l => (b, l)) := by
    by_cases c : e2 = 0
    · subst c
      exact ⟨_, IQ.start b d p2 many, by rw [if_pos rfl]⟩
    · exact ⟨none, by unfold IQ; rw [if_neg c], by rw [if_neg c]; rfl⟩
  obtain ⟨R, hIQ, hR⟩ := HIP
  rw [hR]
  have HI := Lib.hid hIQ
  have H2 := Lib.hid (And.intro l2 (And.intro f2 (And.intro v1 (And.intro v2 hl))))
  have R0 : Hid (Rq (w.alloc (.cells #[.string (bs d), .int .i64 0, .int .i64 0] 84)) w.heap.size d 0 0) := heap_alloc_new _ _
  have hzd := bs_size d
  clear hIQ hR RR h1 h2 l1 l2 f1 f2 v1 v2
  generalize bs d = sb at *
  go_enter Try.func32, Try.ntmps32
  go_wp2_with fail
  refine (C1.out _ _ R0.out).mono ?_
  rintro e w2 ⟨rfl, R2, K2⟩
  have HR2 := Lib.hid R2
  have HK2 := Lib.hid K2
  clear R2 K2 C1 R0
  go_wp2_with fail
  refine (C2.out _ _ HR2.out).mono ?_
  rintro e w3 ⟨rfl, R3, K3⟩
  have T0 : Hid (QS R b many d w.heap.size (w.heap.size + 1) w [] (.slice none 0 0) p2 e2 w3) := by
    have k := HK2.out.trans K3
    have z0 : (w.alloc (.cells #[.string sb, .int .i64 0, .int .i64 0] 84)).heap.size = w.heap.size + 1 := by simp
    have k2 := k.size
    rw [z0] at k2
    exact ⟨R3, H2.out.1, H2.out.2.1, HI.out, OwnZ.nil _ _, by simp, ((Below.refl w.heap.size w).alloc (Nat.le_refl _) _).trans ⟨k.os, k.tape, k.output, k.size, fun j hj => k.block j (by show j ≠ _; omega) (by omega)⟩, k2, fun x hx => by simp at hx⟩
  clear R3 K3 C2 HR2 HK2 HI
  go_wp2
  go_loopw [8] (fun u wr => ∃ (l : List Pz) (v : Value) (p : Nat) (e : Int), v = u ∧ Hid (QS R b many d w.heap.size (w.heap.size + 1) w l v p e wr)) (fun _ wr => rqM d.length wr w.heap.size)
  case atStart => exact ⟨_, _, _, _, rfl, T0⟩
  case round =>
    obtain ⟨l, v, p, e, rfl, hT⟩ := hrel
    clear T0
    obtain ⟨-, c1, c2, -, -⟩ := hT.out.rd.cells
    have hl0 := H2.out.2.2.2.2
    have hle := hT.out.le
    by_cases h5 : e = 0 ∧ p < d.length
    · obtain ⟨rfl, hp⟩ := h5
      have HP := Lib.hid hp
      have yk : (p : Int) < (sb.size : Int) := by omega
      obtain ⟨k, q1, g1, hk⟩ : ∃ k q1 g1, rNum 8199 d p 0 = (k, q1, g1) := ⟨_, _, _, rfl⟩
      have hk2 := num_value 8199 d p (by decide)
      have lq1 := rNum_le 8199 d p 0 hle
      rw [hk] at hk2 lq1
      dsimp only at hk2 lq1
      have D1 : Hid (∀ W, Rq W w.heap.size d p 0 → Calls Try.prog 41 #[.pointer (some ⟨w.heap.size, 0, none⟩), .int .i64 8199] W fun v w' => v = .returned (.int .i64 (k : Int)) ∧ Rq w' w.heap.size d q1 g1 ∧ Keep (fun k => k ≠ w.heap.size) W w') := fun W hW => by
        have := qnum_any 8199 hW hle (by omega)
        rw [hk] at this; exact this
      obtain ⟨x, p', e', hx⟩ : ∃ x p' e', rpz 8199 4099 d p 0 = (x, p', e') := ⟨_, _, _, rfl⟩
      have hsm : small x := by have := rpz_smallp 8199 4099 (by decide) (by decide) d p 0; rw [hx] at this; exact this
      have M0 : Hid (rqM d.length wr w.heap.size = d.length + 1 - p) := by show _ = _; rw [rqM_of hT.out.rd, if_pos rfl]
      have le' : p' ≤ d.length := by have := rpz_le 8199 4099 d p 0 hle; rw [hx] at this; exact this
      have fv' : e' ≠ 5 := by have := rpz_five 8199 4099 d p 0 (by decide); rw [hx] at this; exact this
      have mv : e' = 0 → p < p' := fun c => by
        have := rpz_moves (m1 := 8199) (m2 := 4099) (d := d) (p := p) (by rw [hx]; exact c)
        rw [hx] at this; exact this
      have few := hT.out.few
      rw [if_pos rfl] at few
      have ge' : p ≤ p' := by
        by_cases c : e' = 0
        · have := mv c; omega
        · have hpos : p ≤ p' := by
            have hq : p ≤ q1 := by
              have hm := @num_moves 8199 d p
              by_cases c2 : g1 = 0
              · rw [hk] at hm; have := hm c2; dsimp only at this; omega
              · unfold rNum at hk
                rw [if_neg (by simp)] at hk
                split at hk
                · simp only [Prod.mk.injEq] at hk; omega
                · simp only [Prod.mk.injEq] at hk; omega
            have hx2 := hx
            unfold rpz at hx2
            rw [hk] at hx2
            dsimp only at hx2
            split at hx2
            · have h3 := congrArg (fun y => y.2.1) hx2
              dsimp only at h3
              unfold rRaw at h3
              split at h3
              · dsimp only at h3; omega
              · split at h3
                · dsimp only at h3; omega
                · split at h3
                  · dsimp only at h3; omega
                  · dsimp only at h3; omega
            · have h3 := congrArg (fun y => y.2.1) hx2
              dsimp only at h3
              unfold rNum at h3
              split at h3
              · dsimp only at h3; omega
              · split at h3
                · dsimp only at h3; omega
                · dsimp only at h3; omega
          exact hpos
      have AP : Hid (∀ W, OwnZ W (w.heap.size + 1) v l → w.heap.size + 1 ≤ W.heap.size → ∃ g cap w', (Builtin.append_ #[59, 59] 59 #[v, .slice (some ⟨W.heap.size, 0, none⟩) 1 1]).run Try.prog (W.alloc (.cells #[cpv x, .string (bs x.t)] 76)) = .ok (.slice (some ⟨g, 0, none⟩) (l.length + 1) cap) w' ∧
        OwnZ w' (w.heap.size + 1) (.slice (some ⟨g, 0, none⟩) (l.length + 1) cap) (l ++ [x]) ∧ Below (w.heap.size + 1) W w') := fun W h1 h2 => app_z x h1 h2 (by omega)
      /- what stands behind the append -/
      have END : Hid (∀ W g cap w', QT d w.heap.size (w.heap.size + 1) w l v p' e' W → OwnZ w' (w.heap.size + 1) (.slice (some ⟨g, 0, none⟩) (l.length + 1) cap) (l ++ [x]) → Below (w.heap.size + 1) W w' →
          QS R b many d w.heap.size (w.heap.size + 1) w (l ++ [x]) (.slice (some ⟨g, 0, none⟩) (l.length + 1) cap) p' e' w' ∧ rqM d.length w' w.heap.size < rqM d.length wr w.heap.size) := fun W g cap w' hQ hO hB => by
        have hrd : Rq w' w.heap.size d p' e' := hQ.1.keep (Keep.of_below (K := fun k => k = w.heap.size) hB (fun k hk _ => by omega)) rfl
        refine ⟨⟨hrd, le', fv', hT.out.iq.step H2.out.2.2.1 HP.out hx, hO, ?_, hQ.2.2.1.trans (hB.mono (by omega)), Nat.le_trans hQ.2.2.2 hB.size, fun y hy => ?_⟩, ?_⟩
        · rw [List.length_append, List.length_singleton]
          by_cases c : e' = 0
          · rw [if_pos c]; have := mv c; omega
          · rw [if_neg c]; omega
        · rcases List.mem_append.1 hy with hy | hy
          · exact hT.out.sm y hy
          · simp only [List.mem_singleton] at hy
            subst hy; exact hsm
        · rw [M0.out, rqM_of hrd]
          by_cases c : e' = 0
          · rw [if_pos c]; have := mv c; omega
          · rw [if_neg c]; omega
      have T1 : Hid (QT d w.heap.size (w.heap.size + 1) w l v p 0 wr) := ⟨hT.out.rd, hT.out.own, hT.out.all, hT.out.zle⟩
      have RX : rpz 8199 4099 d p 0 = if k % 2 = 0 then (⟨0, 0, (rRaw (k / 2 : Nat) d q1 g1).1⟩, (rRaw (k / 2 : Nat) d q1 g1).2) else (⟨(rNum 4099 d q1 g1).1, k / 2, []⟩, (rNum 4099 d q1 g1).2) := by unfold rpz; rw [hk]
      rw [hx] at RX
      clear hk hx hsm M0 le' fv' mv few ge' hT
      go_wp2_with fail
      refine (D1.out _ T1.out.1).mono ?_
      rintro v' w4 ⟨rfl, R4, K4⟩
      have T4 := Lib.hid (T1.out.read ⟨Nat.le_refl _, Nat.lt_succ_self _⟩ R4 K4)
      clear R4 K4 D1 T1 c1 c2
      have ob : Hid (∀ g, v.ownBlock = some g → g < w4.heap.size) := fun g hg => (own_lt T4.out.2.1 hg).2
      have T5 := Lib.hid (T4.out.below ((Below.refl w4.heap.size w4).alloc (Nat.le_refl _) (.cells #[.complex .f64 0 0, .string ⟨#[]⟩] 76)))
      have ZW : Hid (w.heap.size < w4.heap.size) := by have := T4.out.2.2.2; show _ < _; omega
      have b5 : Hid ((w4.alloc (.cells #[.complex .f64 0 0, .string ⟨#[]⟩] 76)).heap[w4.heap.size]? = some (.cells #[.complex .f64 0 0, .string ⟨#[]⟩] 76 (0, 0))) := heap_alloc_new _ _
      by_cases c : k % 2 = 0
      · rw [if_pos c] at RX
        have w6 : ¬ (k : Int).tmod 2 = 1 := by rw [Int.tmod_eq_emod_of_nonneg (by omega)]; omega
        have D2 : Hid (∀ y : Int, y = ((k / 2 : Nat) : Int) → ∀ W, Rq W w.heap.size d q1 g1 → Calls Try.prog 42 #[.pointer (some ⟨w.heap.size, 0, none⟩), .int .i64 y] W fun v w' => v = .returned (.string (bs (rRaw (k / 2 : Nat) d q1 g1).1)) ∧ Rq w' w.heap.size d (rRaw (k / 2 : Nat) d q1 g1).2.1 (rRaw (k / 2 : Nat) d q1 g1).2.2 ∧ Keep (fun k => k ≠ w.heap.size) W w') := fun y hy W hW => by
          subst hy
          exact qraw_any ((k / 2 : Nat) : Int) hW lq1 (by omega)
        generalize rRaw ((k / 2 : Nat) : Int) d q1 g1 = A at *
        simp only [Prod.mk.injEq] at RX
        obtain ⟨rfl, ra⟩ := RX
        have e0 : cpv ⟨0, 0, A.1⟩ = .complex .f64 0 0 := by
          show Value.complex .f64 (FB 0) (FB 0) = _
          rw [FB_0]
        rw [e0] at AP
        dsimp only at AP
        have ea : A.2.1 = p' ∧ A.2.2 = e' := by rw [← ra]; exact ⟨rfl, rfl⟩
        rw [ea.1, ea.2] at D2
        generalize bs A.1 = sx at *
        clear e0 ea ra
        have hk3 := hk2.2
        clear hk2
        go_wp2_with fail
        refine (D2.out _ (by omega) _ T5.out.1).mono ?_
        rintro v' w5 ⟨rfl, R5, K5⟩
        have b6 : w5.heap[w4.heap.size]? = some (.cells #[.complex .f64 0 0, .string ⟨#[]⟩] 76 (0, 0)) := K5.at (by have := ZW.out; show w4.heap.size ≠ _; omega) b5.out
        have T6 : Hid (QT d w.heap.size (w.heap.size + 1) w l v p' e' (w5.setCell ⟨w4.heap.size, 1, none⟩ (.string sx))) :=
          (T5.out.read ⟨Nat.le_refl _, Nat.lt_succ_self _⟩ R5 K5).set _ (by have := ZW.out; omega) (by have := ZW.out; omega) (fun h => by have := ob.out _ h; omega)
        have s6 := heap_setCell_same w5 w4.heap.size 1 _ 76 (.string sx) b6
        have d0 := cell_of_row w5 w4.heap.size 0 _ _ _ b6
        have d1 := cell_of_row w5 w4.heap.size 1 _ _ _ b6
        have f1 := frozen_of_row w5 w4.heap.size 1 _ _ b6
        have s0 : (w5.setCell ⟨w4.heap.size, 1, none⟩ (.string sx)).cell? ⟨w4.heap.size, 0, none⟩ = some (.complex .f64 0 0) := cell_of_row _ w4.heap.size 0 _ _ _ s6
        have s1 : (w5.setCell ⟨w4.heap.size, 1, none⟩ (.string sx)).cell? ⟨w4.heap.size, 1, none⟩ = some (.string sx) := cell_of_row _ w4.heap.size 1 _ _ _ s6
        obtain ⟨g, cap, w7, hr, O7, L7⟩ := AP.out _ T6.out.2.1 T6.out.2.2.2
        rw [size_set] at hr
        obtain ⟨E1, E2⟩ := END.out _ _ _ _ T6.out O7 L7
        have HE1 := Lib.hid E1
        have HE2 := Lib.hid E2
        clear R5 K5 b6 T5 b5 T6 s6 O7 L7 E1 E2 AP END D2 T4 ob ZW hp hl0 hle lq1 w6
        go_wp2_with (at_builtin; refine wpList_append_run rfl (.tmp 53) (.tmp 55) 59 59 rfl _ _ _ _ rfl rfl hr ?_)
        clear hr
        go_wp2
        go_roundw
        case rel => exact ⟨_, _, _, _, rfl, HE1⟩
        case measure => exact HE2.out
      · rw [if_neg c] at RX
        have w6 : (k : Int).tmod 2 = 1 := by rw [Int.tmod_eq_emod_of_nonneg (by omega)]; omega
        have D2 : Hid (∀ W, Rq W w.heap.size d q1 g1 → Calls Try.prog 41 #[.pointer (some ⟨w.heap.size, 0, none⟩), .int .i64 4099] W fun v w' => v = .returned (.int .i64 ((rNum 4099 d q1 g1).1 : Int)) ∧ Rq w' w.heap.size d (rNum 4099 d q1 g1).2.1 (rNum 4099 d q1 g1).2.2 ∧ Keep (fun k => k ≠ w.heap.size) W w') := fun W hW => qnum_any 4099 hW lq1 (by omega)
        generalize rNum 4099 d q1 g1 = A at *
        simp only [Prod.mk.injEq] at RX
        obtain ⟨rfl, ra⟩ := RX
        have e0 : cpv ⟨A.1, k / 2, []⟩ = .complex .f64 (FB (A.1 : Int)) (FB ((k / 2 : Nat) : Int)) := rfl
        have e1 : bs [] = ⟨#[]⟩ := rfl
        rw [e0] at AP
        dsimp only at AP
        rw [e1] at AP
        have ea : A.2.1 = p' ∧ A.2.2 = e' := by rw [← ra]; exact ⟨rfl, rfl⟩
        rw [ea.1, ea.2] at D2
        have fA : floatOfInt .f64 (A.1 : Int) = FB (A.1 : Int) := rfl
        have fB : floatOfInt .f64 ((k : Int) / 2) = FB ((k / 2 : Nat) : Int) := by rw [show (k : Int) / 2 = ((k / 2 : Nat) : Int) by omega]; rfl
        generalize FB (A.1 : Int) = P at *
        generalize FB ((k / 2 : Nat) : Int) = N at *
        clear e0 e1 ea ra
        have hk3 := hk2.2
        clear hk2
        go_wp2_with fail
        refine (D2.out _ T5.out.1).mono ?_
        rintro v' w5 ⟨rfl, R5, K5⟩
        have b6 : w5.heap[w4.heap.size]? = some (.cells #[.complex .f64 0 0, .string ⟨#[]⟩] 76 (0, 0)) := K5.at (by have := ZW.out; show w4.heap.size ≠ _; omega) b5.out
        have T6 : Hid (QT d w.heap.size (w.heap.size + 1) w l v p' e' (w5.setCell ⟨w4.heap.size, 0, none⟩ (.complex .f64 P N))) :=
          (T5.out.read ⟨Nat.le_refl _, Nat.lt_succ_self _⟩ R5 K5).set _ (by have := ZW.out; omega) (by have := ZW.out; omega) (fun h => by have := ob.out _ h; omega)
        have s6 := heap_setCell_same w5 w4.heap.size 0 _ 76 (.complex .f64 P N) b6
        have d0 := cell_of_row w5 w4.heap.size 0 _ _ _ b6
        have d1 := cell_of_row w5 w4.heap.size 1 _ _ _ b6
        have f0 := frozen_of_row w5 w4.heap.size 0 _ _ b6
        have s0 : (w5.setCell ⟨w4.heap.size, 0, none⟩ (.complex .f64 P N)).cell? ⟨w4.heap.size, 0, none⟩ = some (.complex .f64 P N) := cell_of_row _ w4.heap.size 0 _ _ _ s6
        have s1 : (w5.setCell ⟨w4.heap.size, 0, none⟩ (.complex .f64 P N)).cell? ⟨w4.heap.size, 1, none⟩ = some (.string ⟨#[]⟩) := cell_of_row _ w4.heap.size 1 _ _ _ s6
        obtain ⟨g, cap, w7, hr, O7, L7⟩ := AP.out _ T6.out.2.1 T6.out.2.2.2
        rw [size_set] at hr
        obtain ⟨E1, E2⟩ := END.out _ _ _ _ T6.out O7 L7
        have HE1 := Lib.hid E1
        have HE2 := Lib.hid E2
        clear R5 K5 b6 T5 b5 T6 s6 O7 L7 E1 E2 AP END D2 T4 ob ZW hp hl0 hle lq1 w6
        go_wp2_with (at_builtin; refine wpList_append_run rfl (.tmp 53) (.tmp 55) 59 59 rfl _ _ _ _ rfl rfl hr ?_)
        clear hr
        go_wp2
        go_roundw
        case rel => exact ⟨_, _, _, _, rfl, HE1⟩
        case measure => exact HE2.out
    · have FIN := hT.out.iq.fin h5
      have HE := qend_any hT.out.rd
      by_cases he : e = 0
      · have hpl : p = d.length := by
          by_cases c : p = d.length
          · exact c
          · exact absurd ⟨he, by omega⟩ h5
        subst he hpl
        have yk : ¬ ((d.length : Int) < (sb.size : Int)) := by omega
        have yk2 : (sb.size : Int) ≤ (d.length : Int) := by omega
        rw [(end_ok (Nat.le_refl _)).2 ⟨rfl, rfl⟩] at HE
        have few := hT.out.few
        rw [if_pos rfl] at few
        have CK : Hid (∀ W, RowZ W v l → Calls Try.prog 44 #[.int .i64 (b : Int), v] W fun e w' => e = .returned (.tuple #[.int .i64 ((chk b l).1 : Int), .int .i64 (chk b l).2]) ∧ Below W.heap.size W w') := fun W h => check_any' b l v W H2.out.2.2.1 h hT.out.sm (by omega)
        have HHE := Lib.hid HE
        by_cases cg : (∀ x ∈ l, good b x) ∧ szs l = many
        · rw [if_pos ⟨rfl, cg⟩] at FIN
          have hm := H2.out.2.2.2.1
          have hc : chk b l = (many, 0) := by unfold chk; rw [if_pos cg.1, if_pos (by omega), cg.2]
          rw [hc] at CK
          dsimp only at CK
          have RF := Lib.hid FIN
          clear FIN HE h5 few hl0 hle cg hc hm
          go_wp2_with fail
          refine HHE.out.mono ?_
          rintro v' w4 ⟨rfl, B4⟩
          have O4 := Lib.hid (hT.out.own.all B4)
          have L4 := Lib.hid (hT.out.all.trans (B4.mono hT.out.all.size))
          clear B4 HHE hT
          go_wp2_with fail
          refine (CK.out _ O4.out.row).mono ?_
          rintro v' w5 ⟨rfl, B5⟩
          have O5 := Lib.hid (O4.out.all B5)
          have L5 := Lib.hid (L4.out.trans (B5.mono L4.out.size))
          clear B5 CK O4 L4
          go_wp2
          go_ret3
          refine ⟨?_, L5.out⟩
          rw [RF.out]
          exact ⟨_, rfl, O5.out.mono (by omega)⟩
        · rw [if_neg (fun h => cg h.2)] at FIN
          have RF := Lib.hid FIN
          obtain ⟨cn, ce, hce⟩ : ∃ cn ce, chk b l = (cn, ce) := ⟨_, _, rfl⟩
          have hbad : ¬ (ce = 0 ∧ cn = many) := by
            rintro ⟨rfl, rfl⟩
            unfold chk at hce
            split at hce
            · rename_i hall
              split at hce
              · simp only [Prod.mk.injEq] at hce
                exact cg ⟨hall, hce.1⟩
              · simp only [Prod.mk.injEq] at hce
                exact absurd hce.2 (by decide)
            · simp only [Prod.mk.injEq] at hce
              exact absurd hce.2 (by decide)
          rw [hce] at CK
          dsimp only at CK
          have t0 : ce = 0 → ¬ cn = many := fun h1 h2 => hbad ⟨h1, h2⟩
          by_cases c0 : ce = 0
          · subst c0
            have t5 : ((cn : Int) != (many : Int)) = true := by
              have := t0 rfl
              have h2 : ¬ ((cn : Int) = (many : Int)) := by omega
              simpa using h2
            clear FIN HE h5 few hl0 hle cg hce hbad t0
            go_wp2_with fail
            refine HHE.out.mono ?_
            rintro v' w4 ⟨rfl, B4⟩
            have O4 := Lib.hid (hT.out.own.all B4)
            have L4 := Lib.hid (hT.out.all.trans (B4.mono hT.out.all.size))
            clear B4 HHE hT
            go_wp2_with fail
            refine (CK.out _ O4.out.row).mono ?_
            rintro v' w5 ⟨rfl, B5⟩
            have L5 := Lib.hid (L4.out.trans (B5.mono L4.out.size))
            clear B5 CK O4 L4
            go_wp2
            go_ret3
            refine ⟨?_, L5.out⟩
            rw [RF.out]
            rfl
          · have t5 : (ce != 0) = true := by simpa using c0
            clear FIN HE h5 few hl0 hle cg hce hbad t0 c0
            go_wp2_with fail
            refine HHE.out.mono ?_
            rintro v' w4 ⟨rfl, B4⟩
            have O4 := Lib.hid (hT.out.own.all B4)
            have L4 := Lib.hid (hT.out.all.trans (B4.mono hT.out.all.size))
            clear B4 HHE hT
            go_wp2_with fail
            refine (CK.out _ O4.out.row).mono ?_
            rintro v' w5 ⟨rfl, B5⟩
            have L5 := Lib.hid (L4.out.trans (B5.mono L4.out.size))
            clear B5 CK O4 L4
            go_wp2
            go_ret3
            refine ⟨?_, L5.out⟩
            rw [RF.out]
            rfl
      · rw [if_neg (fun h => he h.1)] at FIN
        have RF := Lib.hid FIN
        have hE0 : ¬ endOf d.length p e = 0 := fun h => he ((end_ok hT.out.le).1 h).1
        obtain ⟨E, hE⟩ : ∃ E, E = endOf d.length p e := ⟨_, rfl⟩
        rw [← hE] at HE hE0
        have HHE := Lib.hid HE
        have t2 : (E != 0) = true := by simpa using hE0
        have t3 : (e == 0) = false := by simpa using he
        clear HE h5 FIN hE hE0 hl0 hle
        go_wp2_with fail
        refine HHE.out.mono ?_
        rintro v' w4 ⟨rfl, B4⟩
        have L4 := Lib.hid (hT.out.all.trans (B4.mono hT.out.all.size))
        clear B4 HHE hT
        go_wp2
        go_ret3
        refine ⟨?_, L4.out⟩
        rw [RF.out]
        rfl
end Go.Proofs.Ytekeaoolodmdaaa
