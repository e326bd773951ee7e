import Derived.Test.YtnmjcpoobabjgaaGreatDoorGBm
import Derived.Deep.RegionHeld3
import Derived.BigQuiet
set_option linter.unusedVariables false
set_option linter.unusedSimpArgs false
/- Along a way, plainly; what a teller tells. -/
namespace Go.Proofs.YtnmjcpoobabjgaaGreatDoor
set_option maxRecDepth 100000
open Go.RowKit
theorem Way9.lt {l : List Pt} {p : List Nat} (h : Way9 l p) : ∀ j, j < p.length → p.getD j 0 < l.length ∧ fm (l.getD (p.getD j 0) zp) (p.getD j 0 : Nat) = true := by
 induction h with
 | one h1 h2 h3 =>
  intro j hj
  obtain rfl : j = 0 := by simpa using hj
  exact ⟨h1, h2⟩
 | more h1 h2 h3 _ ih =>
  intro j hj
  cases j with
  | zero => exact ⟨h1, h2⟩
  | succ j => exact ih j (by simpa using hj)
theorem Way9.last {l : List Pt} {p : List Nat} (h : Way9 l p) : (l.getD (p.getD (p.length - 1) 0) zp).d = false := by
 induction h with
 | one h1 h2 h3 => exact h3
 | more h1 h2 h3 h4 ih =>
  rename_i at_ p
  simpa using ih
theorem Way9.next {l : List Pt} {p : List Nat} (h : Way9 l p) : ∀ j, j + 1 < p.length → (l.getD (p.getD j 0) zp).d = true ∧ p.getD (j + 1) 0 = (l.getD (p.getD j 0) zp).b.toNat := by
 induction h with
 | one h1 h2 h3 => intro j hj; simp at hj
 | more h1 h2 h3 h4 ih =>
  rename_i at_ p
  intro j hj
  cases j with
  | zero => exact ⟨h3, rfl⟩
  | succ j => exact ih j (by simpa using hj)
theorem Way9.pos {l : List Pt} {p : List Nat} (h : Way9 l p) : 0 < p.length := by cases h <;> simp
/- the text of a place of the way, by that of the next place -/
theorem Way9.text {l : List Pt} {p : List Nat} (h : Way9 l p) {j : Nat} (hj : j < p.length) {T : List UInt8 × Int} (hT : T.2 = 0) (h1 : j + 1 < p.length → T = txq l (p.getD (j + 1) 0)) : txq l (p.getD j 0) = tlq (l.getD (p.getD j 0) zp) T.1 := by
 by_cases c : j + 1 < p.length
 ·obtain ⟨n1, n2⟩ := h.next j c
  have h3 := fm_delta (h.lt j hj).2 n1
  rw [txq_delta n1 h3.2.2, ← n2, ← h1 c, if_pos hT]
 ·have e : j = p.length - 1 := by omega
  have := h.last
  rw [← e] at this
  exact txq_plain this _
/- an error of a place is that of all ahead -/
theorem Way9.error {l : List Pt} {p : List Nat} (h : Way9 l p) : ∀ j, j < p.length → (txq l (p.getD j 0)).2 ≠ 0 → txq l (p.getD 0 0) = ([], (txq l (p.getD j 0)).2) := by
 intro j
 induction j with
 | zero =>
  intro _ he
  rw [← txq_err _ _ he]
 | succ j ih =>
  intro hj he
  obtain ⟨n1, n2⟩ := h.next j hj
  have h3 := fm_delta (h.lt j (by omega)).2 n1
  have e : txq l (p.getD j 0) = ([], (txq l (p.getD (j + 1) 0)).2) := by
   rw [n2] at he ⊢
   rw [txq_delta n1 h3.2.2, if_neg he]
  have := ih (by omega) (by rw [e]; exact he)
  rw [this, e]
/- behind the place j: the loop goes on, or ends with an error -/
theorem told_again {l : List Pt} {way : List Nat} (hW : Way9 l way) {j k : Nat} {T R : List UInt8 × Int} (hQ : T.2 = 0 ∧ T.1.length ≤ 4099 ∧ j + 1 ≤ way.length ∧ (j + 1 < way.length → T = txq l (way.getD (j + 1) 0)) ∧ (j + 1 = 0 → 0 < way.length)) (hk : k = way.getD j 0) (hR : R = txq l (way.getD 0 0)) :
  ((txq l k).2 = 0 → (txq l k).2 = 0 ∧ (txq l k).1.length ≤ 4099 ∧ j ≤ way.length ∧ (j < way.length → txq l k = txq l (way.getD j 0)) ∧ (j = 0 → 0 < way.length)) ∧ ((txq l k).2 ≠ 0 → R = txq l k) := by
 refine ⟨fun h => ⟨h, txq_len _ _, by omega, fun _ => by rw [hk], fun _ => by omega⟩, fun h => ?_⟩
 rw [hR, hW.error j (by omega) (by rw [← hk]; exact h), ← hk]
 exact (show txq l k = ([], (txq l k).2) by rw [← txq_err _ _ h]).symm
theorem Keep.setNew {K : Nat → Prop} {a w : World} (h : Keep K a w) {p : Addr} (hp : a.heap.size ≤ p.block) (u : Value) : Keep K a (w.setCell p u) :=
 ⟨h.os, h.tape, h.output, by have := h.size; simpa [World.setCell] using this, fun k hk hl => by rw [Below.heap_setCell _ _ _ _ (by omega)]; exact h.block k hk hl⟩
/- where the loop stands: the text of the place behind -/
structure LT (w0 w1 : World) (pl pf m : Nat) (v : Value) (l : List Pt) (T : List UInt8 × Int) (wr : World) : Prop where
 ts : TS9 w0 wr pl pf m v l
 kp : Keep (fun j => j ≠ m) w1 wr
 bt : wr.heap[w1.heap.size]? = some (.cells #[.string (bs T.1), .int .i64 T.2] 146 (0, 0))
theorem LT.below {w0 w1 wr w' : World} {pl pf m : Nat} {v : Value} {l : List Pt} {T : List UInt8 × Int} (h : LT w0 w1 pl pf m v l T wr) (hb : Below wr.heap.size wr w') : LT w0 w1 pl pf m v l T w' :=
 ⟨h.ts.below hb, h.kp.trans (Keep.all hb), by rw [hb.block _ (lt_of_block h.bt)]; exact h.bt⟩
theorem LT.put {w0 w1 wr : World} {pl pf m : Nat} {v : Value} {l : List Pt} {T : List UInt8 × Int} (h : LT w0 w1 pl pf m v l T wr) (h1 : TS9 w0 w1 pl pf m v l) (T' : List UInt8 × Int) :
  LT w0 w1 pl pf m v l T' ((wr.setCell ⟨w1.heap.size, 0, none⟩ (.string (bs T'.1))).setCell ⟨w1.heap.size, 1, none⟩ (.int .i64 T'.2)) := by
 have z := h1.all.size
 have n1 : w1.heap.size ≠ pl := by have := lt_of_block h1.bl; omega
 have n2 : w1.heap.size ≠ pf := by have := lt_of_block h1.bf; omega
 have n3 : w1.heap.size ≠ m := by have := h1.fm.lt; omega
 exact ⟨(h.ts.set (p := ⟨w1.heap.size, 0, none⟩) z n1 n2 n3 _).set (p := ⟨w1.heap.size, 1, none⟩) z n1 n2 n3 _, (h.kp.setNew (p := ⟨w1.heap.size, 0, none⟩) (Nat.le_refl _) _).setNew (p := ⟨w1.heap.size, 1, none⟩) (Nat.le_refl _) _, two_set h.bt _ _⟩
theorem LT.cells {w0 w1 wr : World} {pl pf m : Nat} {v : Value} {l : List Pt} {T : List UInt8 × Int} (h : LT w0 w1 pl pf m v l T wr) : wr.cell? ⟨w1.heap.size, 0, none⟩ = some (.string (bs T.1)) ∧ wr.cell? ⟨w1.heap.size, 1, none⟩ = some (.int .i64 T.2) ∧ wr.frozen? ⟨w1.heap.size, 0, none⟩ = false ∧ wr.frozen? ⟨w1.heap.size, 1, none⟩ = false :=
 ⟨cell_of_row _ _ 0 _ _ _ h.bt, cell_of_row _ _ 1 _ _ _ h.bt, frozen_of_row _ _ 0 _ _ h.bt, frozen_of_row _ _ 1 _ _ h.bt⟩
theorem LT.other {w0 w1 wr : World} {pl pf m : Nat} {v : Value} {l : List Pt} {T : List UInt8 × Int} {p : Addr} {b b2 : Nat} (h : LT w0 w1 pl pf m v l T wr) (hn : pl ≠ p.block ∧ pf ≠ p.block ∧ m ≠ p.block ∧ b ≠ p.block ∧ b2 ≠ p.block ∧ w1.heap.size ≠ p.block) (hl : w1.heap.size < p.block) (h1 : TS9 w0 w1 pl pf m v l) (u : Value) : LT w0 w1 pl pf m v l T (wr.setCell p u) :=
 ⟨h.ts.set (by have := h1.all.size; omega) hn.1.symm hn.2.1.symm hn.2.2.1.symm u, h.kp.setNew (by omega) u, by rw [heap_setCell_other wr p _ u hn.2.2.2.2.2]; exact h.bt⟩
theorem LT.upd {w0 w1 wr w' : World} {pl pf m : Nat} {v : Value} {l : List Pt} {T : List UInt8 × Int} (h : LT w0 w1 pl pf m v l T wr) (h1 : TS9 w0 w1 pl pf m v l) (hk : Keep (fun j => j ≠ m) wr w') (hf : Fm w' m l) : LT w0 w1 pl pf m v l T w' :=
 ⟨h.ts.keep hk hf, h.kp.trans hk, hk.at (by have := h1.fm.lt; show w1.heap.size ≠ m; omega) h.bt⟩
def Tok (l : List Pt) (way : List Nat) (q : Nat) (T : List UInt8 × Int) : Prop := T.2 = 0 ∧ T.1.length ≤ 4099 ∧ q ≤ way.length ∧ (q < way.length → T = txq l (way.getD q 0)) ∧ (q = 0 → 0 < way.length)
set_option maxHeartbeats 8000000 in
theorem told_any {l : List Pt} {v : Value} (at_ : Int) {w0 w : World} {pl pf m : Nat} (h : TS9 w0 w pl pf m v l) (hs : l.length ≤ 100000) (ht : ∀ x ∈ l, x.t.length ≤ 1000000) :
  Calls Tryz.prog 85 #[.int .i64 at_, .pointer (some ⟨pl, 0, none⟩), .pointer (some ⟨pf, 0, none⟩)] w fun e w' => e = .returned (.tuple #[.string (bs (textR l at_).1), .int .i64 (textR l at_).2]) ∧ TS9 w0 w' pl pf m v l ∧ Keep (fun j => j ≠ m) w w' := by
 have C1 : Hid (∀ W, RowP W v l → Calls Tryz.prog 86 #[v, .int .i64 at_] W fun e w' => ∃ u, e = .returned (.tuple #[u, .int .i64 (wayR l at_).2]) ∧ OwnN w' W.heap.size u (wayR l at_).1 ∧ Below W.heap.size W w') := fun W h => along_any at_ h hs
 obtain ⟨ad2, cap2, rfl⟩ := RowG.len h.row
 have H0 := Lib.hid h
 have hrow : Hid (RowP w (.slice ad2 l.length cap2) l) := h.row.below h.all
 obtain ⟨way, er, hR⟩ : ∃ way er, wayR l at_ = (way, er) := ⟨_, _, rfl⟩
 have cl := cell_of_row _ _ 0 _ _ _ h.bl
 by_cases c : er = 0
 ·subst c
  have HTX : Hid (textR l at_ = txq l (way.getD 0 0)) := by
   show _ = _
   have := (wayR_way (l := l) (at_ := at_) (by rw [hR])).2.2.2.2.1
   unfold textR
   rw [hR] at this ⊢
   rw [if_pos rfl]
   dsimp only at this
   cases way with
   | nil => simp at this
   | cons a r => simp only [List.head?_cons, Option.some.injEq] at this; subst this; rfl
  have hW := wayR_way (l := l) (at_ := at_) (by rw [hR])
  rw [hR] at hW
  have HWay := Lib.hid hW.2.2.2.1
  have HN5 := Lib.hid hW.2.2.2.2.2
  have HPOS := Lib.hid hW.2.2.2.1.pos
  rw [hR] at C1
  dsimp only at C1
  clear hR hW h
  rw [HTX.out]
  obtain ⟨R, hR⟩ : ∃ R, R = txq l (way.getD 0 0) := ⟨_, rfl⟩
  rw [← hR]
  have HR := Lib.hid hR
  clear hR HTX
  go_enter Tryz.func85, Tryz.ntmps85
  go_wp2_with fail
  refine (C1.out _ hrow.out).mono ?_
  rintro e w1 ⟨u, rfl, hO, B1⟩
  have T1 := Lib.hid (H0.out.below B1)
  have K1 : Hid (Keep (fun j => j ≠ m) w w1) := Keep.all B1
  have HM : Hid (m < w.heap.size) := H0.out.fm.lt
  have HO := Lib.hid hO
  obtain ⟨ao, n, co, hn, rfl⟩ : ∃ ao n co, n = way.length ∧ u = .slice ao n co := by
   obtain ⟨x1, x2, x3⟩ := RowG.len hO.row
   exact ⟨_, _, _, rfl, x3⟩
  have HN := Lib.hid hn
  have n5 : n ≤ 5 := by have := HN5.out; omega
  have T0 : Hid (LT w0 w1 pl pf m (.slice ad2 l.length cap2) l ([], 0) (w1.alloc (.cells #[.string ⟨#[]⟩, .int .i64 0] 146))) :=
   ⟨T1.out.below ((Below.refl _ _).alloc (Nat.le_refl _) _), (Keep.refl _ _).alloc _, heap_alloc_new _ _⟩
  have w5 : IntKind.i64.wrap ((n : Int) - 1) = (n : Int) - 1 := IntWalk.i64_in _ (by omega)
  have Q0 : Hid (Tok l way n ([], 0)) := ⟨rfl, by decide, by omega, fun h => by omega, fun h => HPOS.out⟩
  clear hn B1 C1 hrow hO
  go_wp2
  go_loopw [9] (fun i wr => ∃ (q : Nat) (T : List UInt8 × Int), i = .int .i64 ((q : Int) - 1) ∧ Hid (LT w0 w1 pl pf m (.slice ad2 l.length cap2) l T wr) ∧ Hid (Tok l way q T)) (fun i _ => (intOf i + 1).toNat)
  case atStart => exact ⟨n, _, rfl, T0, Q0⟩
  case round =>
   obtain ⟨q, T, rfl, hT, hQ⟩ := hrel
   cases q with
   | zero =>
    have hRT : R = T := by rw [HR.out]; exact (hQ.out.2.2.2.1 HPOS.out).symm
    subst hRT
    have ej : (((0 : Nat) : Int) - 1) = -1 := rfl
    rw [ej]
    have c0 := cell_of_row _ _ 0 _ _ _ hT.out.bt
    have c1 := cell_of_row _ _ 1 _ _ _ hT.out.bt
    have F1 : Hid (∀ q, TS9 w0 (wr.drewN q) pl pf m (.slice ad2 l.length cap2) l) := fun q => hT.out.ts.below (below_drewN (Below.refl _ _) q)
    have F2 : Hid (∀ q, Keep (fun j => j ≠ m) w (wr.drewN q)) := fun q => (K1.out.trans hT.out.kp).drewN q
    clear T0 Q0 HO H0 T1 w5
    go_wp2
    go_quiet (fail)
    go_wp2
    go_ret2
    exact ⟨rfl, F1.out _, F2.out _⟩
   | succ j =>
    have ej : (((j + 1 : Nat) : Int) - 1) = (j : Int) := by omega
    rw [ej]
    have hjn : j < way.length := by have := hQ.out.2.2.1; omega
    have hjn2 : j < n := by have := HN.out; omega
    have y0 : (0 : Int) ≤ (j : Int) := by omega
    have y1 : (j : Int) < (n : Int) := by omega
    obtain ⟨ad, cap, e0, hc⟩ := RowN.cells HO.out.row
    cases e0
    obtain ⟨b, o, rfl, hbl, hcw⟩ := hc j hjn
    have hbm : b ≠ m := by have := (own_lt HO.out (g := b) rfl).1; have := HM.out; omega
    obtain ⟨k, hk⟩ : ∃ k, k = way.getD j 0 := ⟨_, rfl⟩
    rw [← hk] at hcw
    have HK := Lib.hid hk
    have hkl : k < l.length := by rw [hk]; exact (HWay.out.lt j hjn).1
    obtain ⟨ad3, cap3, e1, hc2⟩ := RowP.cells T1.out.row
    cases e1
    obtain ⟨b2, o2, rfl, hbl2, hp0, hp1, hp2⟩ := hc2 k hkl
    have HCW : Hid (∀ W : World, Below wr.heap.size wr W → W.cell? ⟨b, o + j, none⟩ = some (.int .i64 (k : Int))) := fun W hW => by
     have hb2 : b < wr.heap.size := Nat.lt_of_lt_of_le hbl hT.out.kp.size
     rw [hW.cell (p := ⟨b, o + j, none⟩) hb2]
     exact hT.out.kp.cell (a := ⟨b, o + j, none⟩) hbm hcw
    have HMM : Hid (∀ W : World, Below wr.heap.size wr W → W.heap[m]? = wr.heap[m]?) := fun W hW => hW.block m hT.out.ts.fm.lt
    have HPF : Hid (∀ W : World, Below wr.heap.size wr W → W.cell? ⟨pf, 0, none⟩ = some (.map (some m))) := fun W hW => by
     rw [hW.cell (p := ⟨pf, 0, none⟩) (lt_of_block hT.out.ts.bf)]
     exact cell_of_row _ _ 0 _ _ _ hT.out.ts.bf
    clear hc hc2 hk cl T0 Q0 H0
    have b0 : Below wr.heap.size wr wr.drew := (Below.refl _ _).drew
    have S0 : wr.drew.cell? ⟨pf, 0, none⟩ = some (.map (some m)) ∧ wr.drew.cell? ⟨b, o + j, none⟩ = some (.int .i64 (k : Int)) ∧ wr.drew.heap[m]? = wr.heap[m]? ∧ Below wr.heap.size wr wr.drew := ⟨HPF.out _ b0, HCW.out _ b0, HMM.out _ b0, b0⟩
    have SB : Hid (∀ W, Below wr.heap.size wr W → W.cell? ⟨pf, 0, none⟩ = some (.map (some m)) ∧ W.cell? ⟨b, o + j, none⟩ = some (.int .i64 (k : Int)) ∧ W.heap[m]? = wr.heap[m]? ∧ Below wr.heap.size wr W) := fun W hW => ⟨HPF.out _ hW, HCW.out _ hW, HMM.out _ hW, hW⟩
    rcases hT.out.ts.fm.look k with hlook | ⟨hlook, hput⟩
    ·unfold tv at hlook
     have HL := Lib.hid hlook
     clear hlook
     have HSK : Hid ((txq l k).1.length ≤ 4099) := txq_len l k
     have HEQ : Hid (bs (txq l k).1 = bs (txq l k).1 ∧ (txq l k).2 = (txq l k).2) := ⟨rfl, rfl⟩
     obtain ⟨sk, hsk⟩ : ∃ sk, sk = bs (txq l k).1 := ⟨_, rfl⟩
     obtain ⟨ek, hek⟩ : ∃ ek, ek = (txq l k).2 := ⟨_, rfl⟩
     rw [← hsk, ← hek] at HL
     have HSKE := Lib.hid (And.intro hsk hek)
     clear hsk hek HEQ hp0 hp1 hp2 hcw
     go_wp2
     refine wp_region_noPanic ?_
     refine wp_region_held_drew (S := (fun W => W.cell? ⟨pf, 0, none⟩ = some (.map (some m)) ∧ W.cell? ⟨b, o + j, none⟩ = some (.int .i64 (k : Int)) ∧ W.heap[m]? = wr.heap[m]? ∧ Below wr.heap.size wr W)) (by kernel_rfl) S0 (fun hHeld => ?_)
     refine wpAnyH_take (i := 0) (oi := ⟨some 29, .load 142 (.tmp 2), 142, "along.go:60", #[], none⟩) (v := ?_) rfl (by kernel_rfl) (by kernel_rfl) (by kernel_rfl) (fun _ _ _ h => h) (Or.inl ⟨by kernel_rfl, ?_⟩) (by assumption) ?_
     rotate_left 1
     ·(intro wS hSw; (try dsimp only at hSw); go_simp; try with_reducible rfl)
     try simp only [Act.put, tA, tZ, tS]
     refine wpAnyH_take (i := 1) (oi := ⟨some 30, .move (.tmp 6), 28, "along.go:60", #[], none⟩) (v := ?_) rfl (by kernel_rfl) (by kernel_rfl) (by kernel_rfl) (fun _ _ _ h => h) (Or.inl ⟨by kernel_rfl, ?_⟩) (by assumption) ?_
     rotate_left 1
     ·(intro wS hSw; (try dsimp only at hSw); go_simp; try with_reducible rfl)
     try simp only [Act.put, tA, tZ, tS]
     refine wpAnyH_take (i := 2) (oi := ⟨some 31, .move (.tmp 9), 3, "along.go:60", #[], none⟩) (v := ?_) rfl (by kernel_rfl) (by kernel_rfl) (by kernel_rfl) (fun _ _ _ h => h) (Or.inl ⟨by kernel_rfl, ?_⟩) (by assumption) ?_
     rotate_left 1
     ·(intro wS hSw; (try dsimp only at hSw); go_simp; try with_reducible rfl)
     try simp only [Act.put, tA, tZ, tS]
     refine wpAnyH_take (i := 3) (oi := ⟨some 32, .indexAddr 28 (.tmp 30) (.tmp 31), 0, "along.go:60", #[⟨1, .data⟩, ⟨2, .data⟩], none⟩) (v := ?_) rfl (by kernel_rfl) (by kernel_rfl) (by kernel_rfl) (fun _ _ _ h => h) (Or.inl ⟨by kernel_rfl, ?_⟩) (by assumption) ?_
     rotate_left 1
     ·(intro wS hSw; (try dsimp only at hSw); go_simp; try with_reducible rfl)
     try simp only [Act.put, tA, tZ, tS]
     refine wpAnyH_take (i := 4) (oi := ⟨some 33, .load 3 (.tmp 32), 3, "along.go:60", #[⟨3, .data⟩], none⟩) (v := ?_) rfl (by kernel_rfl) (by kernel_rfl) (by kernel_rfl) (fun _ _ _ h => h) (Or.inl ⟨by kernel_rfl, ?_⟩) (by assumption) ?_
     rotate_left 1
     ·(intro wS hSw; (try dsimp only at hSw); go_simp; try with_reducible rfl)
     try simp only [Act.put, tA, tZ, tS]
     refine wpAnyH_take (i := 5) (oi := ⟨some 34, .lookup 142 (.tmp 29) (.tmp 33) true, 147, "along.go:60", #[⟨0, .data⟩, ⟨4, .data⟩], none⟩) rfl (by kernel_rfl) (by kernel_rfl) (by kernel_rfl) (fun _ _ _ h => h) (Or.inl ⟨by kernel_rfl, fun wS hSw => ex_lookup2 142 (.tmp 29) (.tmp 33) rfl _ _ _ rfl rfl (HL.out wS hSw.2.2.1)⟩) (by assumption) ?_
     try simp only [Act.put, tA, tZ, tS]
     refine wpAnyH_take (i := 6) (oi := ⟨some 28, .move (.tmp 34), 147, "along.go:60", #[⟨5, .data⟩], none⟩) (v := ?_) rfl (by kernel_rfl) (by kernel_rfl) (by kernel_rfl) (fun _ _ _ h => h) (Or.inl ⟨by kernel_rfl, ?_⟩) (by assumption) ?_
     rotate_left 1
     ·(intro wS hSw; (try dsimp only at hSw); go_simp; try with_reducible rfl)
     try simp only [Act.put, tA, tZ, tS]
     refine wpAnyH_take (i := 7) (oi := ⟨some 35, .extract (.tmp 28) 0, 146, "along.go:60", #[⟨6, .data⟩], none⟩) (v := ?_) rfl (by kernel_rfl) (by kernel_rfl) (by kernel_rfl) (fun _ _ _ h => h) (Or.inl ⟨by kernel_rfl, ?_⟩) (by assumption) ?_
     rotate_left 1
     ·(intro wS hSw; (try dsimp only at hSw); go_simp; try with_reducible rfl)
     try simp only [Act.put, tA, tZ, tS]
     refine wpAnyH_take (i := 8) (oi := ⟨some 36, .extract (.tmp 28) 1, 4, "along.go:60", #[⟨6, .data⟩, { on := 10, ground := Ground.gcOnly Departure.lateStores }], none⟩) (v := ?_) rfl (by kernel_rfl) (by kernel_rfl) (by kernel_rfl) (fun _ _ _ h => h) (Or.inl ⟨by kernel_rfl, ?_⟩) (by assumption) ?_
     rotate_left 1
     ·(intro wS hSw; (try dsimp only at hSw); go_simp; try with_reducible rfl)
     try simp only [Act.put, tA, tZ, tS]
     refine wpAnyH_ready (rs := [9]) (by kernel_rfl) (by simp) ?_
     refine AllReadyH.cons (o := ⟨some 10, .alloc 146, 0, "along.go:60", #[], none⟩) rfl (fun K hK => ?_) AllReadyH.nil
     go_simp
     refine hK.out _ _ (SB.out _ (b0.alloc (Nat.le_refl _) _)) (fun hHeld9 => ?_)
     clear hK K
     try simp only [Act.put, tA, tZ, tS]
     refine wpAnyH_ready (rs := [10]) (by kernel_rfl) (by simp) ?_
     refine AllReadyH.cons (o := ⟨none, .store 146 (.tmp 10) (.tmp 35), 0, "along.go:60", #[⟨9, .data⟩, ⟨7, .data⟩, ⟨0, .phase⟩, ⟨1, .phase⟩, ⟨2, .phase⟩, ⟨3, .phase⟩, ⟨4, .phase⟩, ⟨5, .phase⟩, ⟨6, .phase⟩, ⟨7, .phase⟩, { on := 8, ground := Ground.textOnly Departure.lateStores }, ⟨9, .phase⟩], none⟩) rfl (fun K hK => ?_) AllReadyH.nil
     go_simp
     refine hK.out _ _ (SB.out _ (b0.alloc (Nat.le_refl _) _)) (fun hHeld10 => ?_)
     clear hK K
     try simp only [Act.put, tA, tZ, tS]
     refine wpAnyH_take (i := 11) (oi := ⟨some 11, .assign (.tmp 36), 4, "along.go:60", #[⟨8, .data⟩, ⟨10, .chain⟩, ⟨0, .phase⟩, ⟨1, .phase⟩, ⟨2, .phase⟩, ⟨3, .phase⟩, ⟨4, .phase⟩, ⟨5, .phase⟩, ⟨6, .phase⟩, ⟨7, .phase⟩, ⟨8, .phase⟩, ⟨9, .phase⟩, ⟨10, .phase⟩], none⟩) (v := ?_) rfl (by kernel_rfl) (by kernel_rfl) (by kernel_rfl) (fun _ _ _ h => h) (Or.inl ⟨by kernel_rfl, ?_⟩) (by assumption) ?_
     rotate_left 1
     ·(intro wS hSw; (try dsimp only at hSw); go_simp; try with_reducible rfl)
     try simp only [Act.put, tA, tZ, tS]
     refine wpAnyH_done (by kernel_rfl) ?_ _
     refine NoPanic.normal ?_
     have B8 : Below wr.heap.size wr (wr.alloc (.cells #[.string sk, .int .i64 ek] 146)) := ((Below.refl _ _).alloc (Nat.le_refl _) _)
     have L8 := Lib.hid (hT.out.below B8)
     obtain ⟨k0, k1, k2, k3⟩ := L8.out.cells
     have L9 := L8.out.put T1.out (txq l k)
     obtain ⟨g0, g1, g2, g3⟩ := L9.cells
     rw [← HSKE.out.1, ← HSKE.out.2] at L9
     rw [← HSKE.out.1, ← HSKE.out.2] at g0 g1
     rw [← HSKE.out.1, ← HSKE.out.2] at g2 g3
     have HL9 := Lib.hid (L9.below (Below.refl _ _).drew)
     clear SB S0 b0 B8 HCW HMM HPF HL L9
     have FA := Lib.hid (told_again HWay.out hQ.out HK.out HR.out)
     by_cases ce : ek = 0
     ·subst ce
      go_wp2
      go_roundw
      case rel => exact ⟨j, _, by go_num, HL9, FA.out.1 HSKE.out.2.symm⟩
      case measure => simp [intOf]
     ·have hRT : R = txq l k := FA.out.2 (by rw [← HSKE.out.2]; exact ce)
      have hR1 : Hid (bs R.1 = sk ∧ R.2 = ek) := by rw [hRT]; exact ⟨HSKE.out.1.symm, HSKE.out.2.symm⟩
      clear FA HSKE HR HK hRT
      go_wp2
      go_quiet (fail)
      go_wp2
      go_ret2
      refine ⟨by rw [hR1.out.1, hR1.out.2]; rfl, (HL9.out.below (below_drewN (Below.refl _ _) _)).ts, K1.out.trans (HL9.out.below (below_drewN (Below.refl _ _) _)).kp⟩
    ·have HL := Lib.hid hlook
     have HP := Lib.hid hput
     clear hlook hput
     have HSK : Hid ((txq l k).1.length ≤ 4099) := txq_len l k
     obtain ⟨sk, hsk⟩ : ∃ sk, sk = bs (txq l k).1 := ⟨_, rfl⟩
     obtain ⟨ek, hek⟩ : ∃ ek, ek = (txq l k).2 := ⟨_, rfl⟩
     have HSKE := Lib.hid (And.intro hsk hek)
     have C9 : Hid (∀ W, Calls Tryz.prog 87 #[.agg #[.bool (l.getD k zp).d, .int .i64 (l.getD k zp).b, .string (bs (l.getD k zp).t)], .string (bs T.1)] W fun e w' => e = .returned (.agg #[.string sk, .int .i64 ek]) ∧ Below W.heap.size W w') := fun W => by
      have := tell_any (l.getD k zp) T.1 W hQ.out.2.1 (ht _ (getD_mem _ _ _ hkl))
      rw [hsk, hek]
      have e2 : txq l k = tlq (l.getD k zp) T.1 := by rw [HK.out]; exact HWay.out.text hjn hQ.out.1 hQ.out.2.2.2.1
      unfold tv at this
      rw [← e2] at this
      exact this
     unfold tv at HP
     rw [← hsk, ← hek] at HP
     clear hsk hek hcw
     obtain ⟨d, hd⟩ : ∃ d, d = (l.getD k zp).d := ⟨_, rfl⟩
     obtain ⟨xb, hxb⟩ : ∃ xb, xb = (l.getD k zp).b := ⟨_, rfl⟩
     obtain ⟨st, hst⟩ : ∃ st, st = bs (l.getD k zp).t := ⟨_, rfl⟩
     obtain ⟨sT, hsT⟩ : ∃ sT, sT = bs T.1 := ⟨_, rfl⟩
     rw [← hd, ← hxb, ← hst, ← hsT] at C9
     rw [← hd] at hp0
     rw [← hxb] at hp1
     rw [← hst] at hp2
     have B8 : Hid (Below wr.heap.size wr (wr.alloc (.cells #[.string ⟨#[]⟩, .int .i64 0] 146)).drew) := ((Below.refl _ _).alloc (Nat.le_refl _) _).drew
     have L8 := Lib.hid (hT.out.below B8.out)
     obtain ⟨W8, hW8⟩ : ∃ W8, W8 = (wr.alloc (.cells #[.string ⟨#[]⟩, .int .i64 0] 146)).drew := ⟨_, rfl⟩
     obtain ⟨pk, hpk⟩ : ∃ pk, pk = wr.heap.size := ⟨_, rfl⟩
     have hk8 : Hid (W8.heap[pk]? = some (.cells #[.string ⟨#[]⟩, .int .i64 0] 146 (0, 0))) := by rw [hW8, hpk]; exact heap_alloc_new _ _
     have hlt : Hid (w1.heap.size < pk) := by rw [hpk]; exact lt_of_block hT.out.bt
     rw [← hW8] at B8 L8
     have HN1 : Hid (pl ≠ pk ∧ pf ≠ pk ∧ m ≠ pk ∧ b ≠ pk ∧ b2 ≠ pk ∧ w1.heap.size ≠ pk) := by
      have q0 := hlt.out
      have q1 := lt_of_block T1.out.bl
      have q2 := lt_of_block T1.out.bf
      have q3 := T1.out.fm.lt
      have q4 := T1.out.all.size
      exact ⟨by omega, by omega, by omega, by omega, by omega, by omega⟩
     have S10 : Hid (∀ W, Keep (fun i => i ≠ pk) W8 W → W.cell? ⟨pl, 0, none⟩ = some (.slice (some ⟨b2, o2, none⟩) l.length cap2) ∧ W.cell? ⟨b, o + j, none⟩ = some (.int .i64 (k : Int)) ∧ W.cell? ⟨b2, o2 + k * 3, none⟩ = some (.bool d) ∧ W.cell? ⟨b2, o2 + k * 3 + 1, none⟩ = some (.int .i64 xb) ∧ W.cell? ⟨b2, o2 + k * 3 + 2, none⟩ = some (.string st) ∧ W.cell? ⟨w1.heap.size, 0, none⟩ = some (.string sT) ∧ W.cell? ⟨pf, 0, none⟩ = some (.map (some m)) ∧ Keep (fun i => i ≠ pk) W8 W) := fun W hW => by
      have q := HN1.out
      have z := L8.out
      refine ⟨hW.cell (a := ⟨pl, 0, none⟩) q.1 (cell_of_row _ _ 0 _ _ _ z.ts.bl), hW.cell (a := ⟨b, o + j, none⟩) q.2.2.2.1 (HCW.out W8 B8.out), hW.cell (a := ⟨b2, o2 + k * 3, none⟩) q.2.2.2.2.1 (by rw [z.ts.all.cell (by exact hbl2)]; exact hp0), hW.cell (a := ⟨b2, o2 + k * 3 + 1, none⟩) q.2.2.2.2.1 (by rw [z.ts.all.cell (by exact hbl2)]; exact hp1), hW.cell (a := ⟨b2, o2 + k * 3 + 2, none⟩) q.2.2.2.2.1 (by rw [z.ts.all.cell (by exact hbl2)]; exact hp2), hW.cell (a := ⟨w1.heap.size, 0, none⟩) q.2.2.2.2.2 (by rw [hsT]; exact z.cells.1), hW.cell (a := ⟨pf, 0, none⟩) q.2.1 (cell_of_row _ _ 0 _ _ _ z.ts.bf), hW⟩
     have yk1 : (k : Int) < (l.length : Int) := by omega
     have yk0 : (0 : Int) ≤ (k : Int) := by omega
     have HW8 := Lib.hid hW8
     have HPK := Lib.hid hpk
     have MM8 : Hid (W8.heap[m]? = wr.heap[m]?) := HMM.out _ B8.out
     clear hd hxb hst hsT hp0 hp1 hp2 HCW HPF hW8 hpk
     go_wp2
     refine wp_region_noPanic ?_
     refine wp_region_held_drew (S := (fun W => W.cell? ⟨pf, 0, none⟩ = some (.map (some m)) ∧ W.cell? ⟨b, o + j, none⟩ = some (.int .i64 (k : Int)) ∧ W.heap[m]? = wr.heap[m]? ∧ Below wr.heap.size wr W)) (by kernel_rfl) S0 (fun hHeld => ?_)
     refine wpAnyH_take (i := 0) (oi := ⟨some 29, .load 142 (.tmp 2), 142, "along.go:60", #[], none⟩) (v := ?_) rfl (by kernel_rfl) (by kernel_rfl) (by kernel_rfl) (fun _ _ _ h => h) (Or.inl ⟨by kernel_rfl, ?_⟩) (by assumption) ?_
     rotate_left 1
     ·(intro wS hSw; (try dsimp only at hSw); go_simp; try with_reducible rfl)
     try simp only [Act.put, tA, tZ, tS]
     refine wpAnyH_take (i := 1) (oi := ⟨some 30, .move (.tmp 6), 28, "along.go:60", #[], none⟩) (v := ?_) rfl (by kernel_rfl) (by kernel_rfl) (by kernel_rfl) (fun _ _ _ h => h) (Or.inl ⟨by kernel_rfl, ?_⟩) (by assumption) ?_
     rotate_left 1
     ·(intro wS hSw; (try dsimp only at hSw); go_simp; try with_reducible rfl)
     try simp only [Act.put, tA, tZ, tS]
     refine wpAnyH_take (i := 2) (oi := ⟨some 31, .move (.tmp 9), 3, "along.go:60", #[], none⟩) (v := ?_) rfl (by kernel_rfl) (by kernel_rfl) (by kernel_rfl) (fun _ _ _ h => h) (Or.inl ⟨by kernel_rfl, ?_⟩) (by assumption) ?_
     rotate_left 1
     ·(intro wS hSw; (try dsimp only at hSw); go_simp; try with_reducible rfl)
     try simp only [Act.put, tA, tZ, tS]
     refine wpAnyH_take (i := 3) (oi := ⟨some 32, .indexAddr 28 (.tmp 30) (.tmp 31), 0, "along.go:60", #[⟨1, .data⟩, ⟨2, .data⟩], none⟩) (v := ?_) rfl (by kernel_rfl) (by kernel_rfl) (by kernel_rfl) (fun _ _ _ h => h) (Or.inl ⟨by kernel_rfl, ?_⟩) (by assumption) ?_
     rotate_left 1
     ·(intro wS hSw; (try dsimp only at hSw); go_simp; try with_reducible rfl)
     try simp only [Act.put, tA, tZ, tS]
     refine wpAnyH_take (i := 4) (oi := ⟨some 33, .load 3 (.tmp 32), 3, "along.go:60", #[⟨3, .data⟩], none⟩) (v := ?_) rfl (by kernel_rfl) (by kernel_rfl) (by kernel_rfl) (fun _ _ _ h => h) (Or.inl ⟨by kernel_rfl, ?_⟩) (by assumption) ?_
     rotate_left 1
     ·(intro wS hSw; (try dsimp only at hSw); go_simp; try with_reducible rfl)
     try simp only [Act.put, tA, tZ, tS]
     refine wpAnyH_take (i := 5) (oi := ⟨some 34, .lookup 142 (.tmp 29) (.tmp 33) true, 147, "along.go:60", #[⟨0, .data⟩, ⟨4, .data⟩], none⟩) rfl (by kernel_rfl) (by kernel_rfl) (by kernel_rfl) (fun _ _ _ h => h) (Or.inl ⟨by kernel_rfl, fun wS hSw => ex_lookup2 142 (.tmp 29) (.tmp 33) rfl _ _ _ rfl rfl (HL.out wS hSw.2.2.1)⟩) (by assumption) ?_
     try simp only [Act.put, tA, tZ, tS]
     refine wpAnyH_take (i := 6) (oi := ⟨some 28, .move (.tmp 34), 147, "along.go:60", #[⟨5, .data⟩], none⟩) (v := ?_) rfl (by kernel_rfl) (by kernel_rfl) (by kernel_rfl) (fun _ _ _ h => h) (Or.inl ⟨by kernel_rfl, ?_⟩) (by assumption) ?_
     rotate_left 1
     ·(intro wS hSw; (try dsimp only at hSw); go_simp; try with_reducible rfl)
     try simp only [Act.put, tA, tZ, tS]
     refine wpAnyH_take (i := 7) (oi := ⟨some 35, .extract (.tmp 28) 0, 146, "along.go:60", #[⟨6, .data⟩], none⟩) (v := ?_) rfl (by kernel_rfl) (by kernel_rfl) (by kernel_rfl) (fun _ _ _ h => h) (Or.inl ⟨by kernel_rfl, ?_⟩) (by assumption) ?_
     rotate_left 1
     ·(intro wS hSw; (try dsimp only at hSw); go_simp; try with_reducible rfl)
     try simp only [Act.put, tA, tZ, tS]
     refine wpAnyH_take (i := 8) (oi := ⟨some 36, .extract (.tmp 28) 1, 4, "along.go:60", #[⟨6, .data⟩, { on := 10, ground := Ground.gcOnly Departure.lateStores }], none⟩) (v := ?_) rfl (by kernel_rfl) (by kernel_rfl) (by kernel_rfl) (fun _ _ _ h => h) (Or.inl ⟨by kernel_rfl, ?_⟩) (by assumption) ?_
     rotate_left 1
     ·(intro wS hSw; (try dsimp only at hSw); go_simp; try with_reducible rfl)
     try simp only [Act.put, tA, tZ, tS]
     refine wpAnyH_ready (rs := [9]) (by kernel_rfl) (by simp) ?_
     refine AllReadyH.cons (o := ⟨some 10, .alloc 146, 0, "along.go:60", #[], none⟩) rfl (fun K hK => ?_) AllReadyH.nil
     go_simp
     refine hK.out _ _ (SB.out _ (b0.alloc (Nat.le_refl _) _)) (fun hHeld9 => ?_)
     clear hK K
     try simp only [Act.put, tA, tZ, tS]
     refine wpAnyH_ready (rs := [10]) (by kernel_rfl) (by simp) ?_
     refine AllReadyH.cons (o := ⟨none, .store 146 (.tmp 10) (.tmp 35), 0, "along.go:60", #[⟨9, .data⟩, ⟨7, .data⟩, ⟨0, .phase⟩, ⟨1, .phase⟩, ⟨2, .phase⟩, ⟨3, .phase⟩, ⟨4, .phase⟩, ⟨5, .phase⟩, ⟨6, .phase⟩, ⟨7, .phase⟩, { on := 8, ground := Ground.textOnly Departure.lateStores }, ⟨9, .phase⟩], none⟩) rfl (fun K hK => ?_) AllReadyH.nil
     go_simp
     refine hK.out _ _ (SB.out _ (b0.alloc (Nat.le_refl _) _)) (fun hHeld10 => ?_)
     clear hK K
     try simp only [Act.put, tA, tZ, tS]
     refine wpAnyH_take (i := 11) (oi := ⟨some 11, .assign (.tmp 36), 4, "along.go:60", #[⟨8, .data⟩, ⟨10, .chain⟩, ⟨0, .phase⟩, ⟨1, .phase⟩, ⟨2, .phase⟩, ⟨3, .phase⟩, ⟨4, .phase⟩, ⟨5, .phase⟩, ⟨6, .phase⟩, ⟨7, .phase⟩, ⟨8, .phase⟩, ⟨9, .phase⟩, ⟨10, .phase⟩], none⟩) (v := ?_) rfl (by kernel_rfl) (by kernel_rfl) (by kernel_rfl) (fun _ _ _ h => h) (Or.inl ⟨by kernel_rfl, ?_⟩) (by assumption) ?_
     rotate_left 1
     ·(intro wS hSw; (try dsimp only at hSw); go_simp; try with_reducible rfl)
     try simp only [Act.put, tA, tZ, tS]
     refine wpAnyH_done (by kernel_rfl) ?_ _
     refine NoPanic.normal ?_
     clear SB S0 b0 HL
     go_wp2
     rw [← HPK.out, ← HW8.out]
     clear HPK HW8
     have M0 : Keep (fun i => i ≠ pk) W8 W8.drew := (Keep.refl _ _).drew
     have T10 := S10.out _ M0
     refine wp_region_noPanic ?_
     refine wp_region_held_drew (S := (fun W => W.cell? ⟨pl, 0, none⟩ = some (.slice (some ⟨b2, o2, none⟩) l.length cap2) ∧ W.cell? ⟨b, o + j, none⟩ = some (.int .i64 (k : Int)) ∧ W.cell? ⟨b2, o2 + k * 3, none⟩ = some (.bool d) ∧ W.cell? ⟨b2, o2 + k * 3 + 1, none⟩ = some (.int .i64 xb) ∧ W.cell? ⟨b2, o2 + k * 3 + 2, none⟩ = some (.string st) ∧ W.cell? ⟨w1.heap.size, 0, none⟩ = some (.string sT) ∧ W.cell? ⟨pf, 0, none⟩ = some (.map (some m)) ∧ Keep (fun i => i ≠ pk) W8 W)) (by kernel_rfl) T10 (fun hHeld => ?_)
     refine wpAnyH_take (i := 0) (oi := ⟨some 39, .load 22 (.tmp 1), 22, "along.go:62", #[], none⟩) (v := ?_) rfl (by kernel_rfl) (by kernel_rfl) (by kernel_rfl) (fun _ _ _ h => h) (Or.inl ⟨by kernel_rfl, ?_⟩) (by assumption) ?_
     rotate_left 1
     ·(intro wS hSw; (try dsimp only at hSw); go_simp; try with_reducible rfl)
     try simp only [Act.put, tA, tZ, tS]
     refine wpAnyH_take (i := 1) (oi := ⟨some 40, .move (.tmp 6), 28, "along.go:62", #[], none⟩) (v := ?_) rfl (by kernel_rfl) (by kernel_rfl) (by kernel_rfl) (fun _ _ _ h => h) (Or.inl ⟨by kernel_rfl, ?_⟩) (by assumption) ?_
     rotate_left 1
     ·(intro wS hSw; (try dsimp only at hSw); go_simp; try with_reducible rfl)
     try simp only [Act.put, tA, tZ, tS]
     refine wpAnyH_take (i := 2) (oi := ⟨some 41, .move (.tmp 9), 3, "along.go:62", #[], none⟩) (v := ?_) rfl (by kernel_rfl) (by kernel_rfl) (by kernel_rfl) (fun _ _ _ h => h) (Or.inl ⟨by kernel_rfl, ?_⟩) (by assumption) ?_
     rotate_left 1
     ·(intro wS hSw; (try dsimp only at hSw); go_simp; try with_reducible rfl)
     try simp only [Act.put, tA, tZ, tS]
     refine wpAnyH_take (i := 3) (oi := ⟨some 42, .indexAddr 28 (.tmp 40) (.tmp 41), 0, "along.go:62", #[⟨1, .data⟩, ⟨2, .data⟩], none⟩) (v := ?_) rfl (by kernel_rfl) (by kernel_rfl) (by kernel_rfl) (fun _ _ _ h => h) (Or.inl ⟨by kernel_rfl, ?_⟩) (by assumption) ?_
     rotate_left 1
     ·(intro wS hSw; (try dsimp only at hSw); go_simp; try with_reducible rfl)
     try simp only [Act.put, tA, tZ, tS]
     refine wpAnyH_take (i := 4) (oi := ⟨some 43, .load 3 (.tmp 42), 3, "along.go:62", #[⟨3, .data⟩], none⟩) (v := ?_) rfl (by kernel_rfl) (by kernel_rfl) (by kernel_rfl) (fun _ _ _ h => h) (Or.inl ⟨by kernel_rfl, ?_⟩) (by assumption) ?_
     rotate_left 1
     ·(intro wS hSw; (try dsimp only at hSw); go_simp; try with_reducible rfl)
     try simp only [Act.put, tA, tZ, tS]
     refine wpAnyH_take (i := 5) (oi := ⟨some 44, .indexAddr 22 (.tmp 39) (.tmp 43), 0, "along.go:62", #[⟨0, .data⟩, ⟨4, .data⟩], none⟩) (v := ?_) rfl (by kernel_rfl) (by kernel_rfl) (by kernel_rfl) (fun _ _ _ h => h) (Or.inl ⟨by kernel_rfl, ?_⟩) (by assumption) ?_
     rotate_left 1
     ·(intro wS hSw; (try dsimp only at hSw); go_simp; try with_reducible rfl)
     try simp only [Act.put, tA, tZ, tS]
     refine wpAnyH_take (i := 6) (oi := ⟨some 45, .load 60 (.tmp 44), 60, "along.go:62", #[⟨5, .data⟩], none⟩) (v := ?_) rfl (by kernel_rfl) (by kernel_rfl) (by kernel_rfl) (fun _ _ _ h => h) (Or.inl ⟨by kernel_rfl, ?_⟩) (by assumption) ?_
     rotate_left 1
     ·(intro wS hSw; (try dsimp only at hSw); go_simp; try with_reducible rfl)
     try simp only [Act.put, tA, tZ, tS]
     refine wpAnyH_take (i := 7) (oi := ⟨some 46, .fieldAddr 146 (.tmp 8) 0, 0, "along.go:62", #[], none⟩) (v := ?_) rfl (by kernel_rfl) (by kernel_rfl) (by kernel_rfl) (fun _ _ _ h => h) (Or.inl ⟨by kernel_rfl, ?_⟩) (by assumption) ?_
     rotate_left 1
     ·(intro wS hSw; (try dsimp only at hSw); go_simp; try with_reducible rfl)
     try simp only [Act.put, tA, tZ, tS]
     refine wpAnyH_take (i := 8) (oi := ⟨some 47, .load 9 (.tmp 46), 9, "along.go:62", #[⟨7, .data⟩], none⟩) (v := ?_) rfl (by kernel_rfl) (by kernel_rfl) (by kernel_rfl) (fun _ _ _ h => h) (Or.inl ⟨by kernel_rfl, ?_⟩) (by assumption) ?_
     rotate_left 1
     ·(intro wS hSw; (try dsimp only at hSw); go_simp; try with_reducible rfl)
     try simp only [Act.put, tA, tZ, tS]
     refine wpAnyH_ready (rs := [9]) (by kernel_rfl) (by simp) ?_
     refine AllReadyH.cons (o := ⟨some 48, .call { callee := .value (Operand.func 87), args := #[.tmp 45, .tmp 47], argTypes := #[60, 9] }, 146, "along.go:62", #[⟨6, .data⟩, ⟨8, .data⟩], none⟩) rfl (fun K hK => ?_) AllReadyH.nil
     go_simp
     refine (C9.out _).mono ?_
     rintro e w9 ⟨rfl, M9⟩
     have Sa9 := S10.out _ (M0.trans (Keep.all M9))
     refine hK.out _ _ Sa9 (fun hHeld9 => ?_)
     clear hK K
     try simp only [Act.put, tA, tZ, tS]
     have hk9 : w9.heap[pk]? = some (.cells #[.string ⟨#[]⟩, .int .i64 0] 146 (0, 0)) := by rw [M9.block pk (lt_of_block hk8.out)]; exact hk8.out
     have L9 : LT w0 w1 pl pf m (.slice (some ⟨b2, o2, none⟩) l.length cap2) l T w9 := (L8.out.below (Below.refl _ _).drew).below M9
     have p0 := cell_of_row _ _ 0 _ _ _ hk9
     have p1 := cell_of_row _ _ 1 _ _ _ hk9
     have p2 := frozen_of_row _ _ 0 _ _ hk9
     have p3 := frozen_of_row _ _ 1 _ _ hk9
     have HK9 := Lib.hid hk9
     have KA : Hid (Keep (fun i => i ≠ pk) W8 ((w9.setCell ⟨pk, 0, none⟩ (.string sk)).setCell ⟨pk, 1, none⟩ (.int .i64 ek))) := ((M0.trans (Keep.all M9)).setCell (p := ⟨pk, 0, none⟩) (fun h => h rfl) _).setCell (p := ⟨pk, 1, none⟩) (fun h => h rfl) _
     have LA : Hid (LT w0 w1 pl pf m (.slice (some ⟨b2, o2, none⟩) l.length cap2) l T ((w9.setCell ⟨pk, 0, none⟩ (.string sk)).setCell ⟨pk, 1, none⟩ (.int .i64 ek))) := (L9.other (p := ⟨pk, 0, none⟩) HN1.out hlt.out T1.out _).other (p := ⟨pk, 1, none⟩) HN1.out hlt.out T1.out _
     have KB : Hid (((w9.setCell ⟨pk, 0, none⟩ (.string sk)).setCell ⟨pk, 1, none⟩ (.int .i64 ek)).heap[pk]? = some (.cells #[.string sk, .int .i64 ek] 146 (0, 0))) := two_set hk9 _ _
     have MA : Hid (((w9.setCell ⟨pk, 0, none⟩ (.string sk)).setCell ⟨pk, 1, none⟩ (.int .i64 ek)).heap[m]? = wr.heap[m]?) := by
      have q := HN1.out.2.2.1
      rw [heap_setCell_other _ ⟨pk, 1, none⟩ m _ q, heap_setCell_other _ ⟨pk, 0, none⟩ m _ q, M9.block m (by have := L8.out.ts.fm.lt; exact this)]
      exact MM8.out
     clear L9 hk9
     refine wpAnyH_ready (rs := [10]) (by kernel_rfl) (by simp) ?_
     refine AllReadyH.cons (o := ⟨none, .store 146 (.tmp 10) (.tmp 48), 0, "along.go:62", #[⟨9, .data⟩, ⟨9, .chain⟩, ⟨0, .phase⟩, ⟨1, .phase⟩, ⟨2, .phase⟩, ⟨3, .phase⟩, ⟨4, .phase⟩, ⟨5, .phase⟩, ⟨6, .phase⟩, ⟨7, .phase⟩, ⟨8, .phase⟩, ⟨9, .phase⟩], none⟩) rfl (fun K hK => ?_) AllReadyH.nil
     go_simp
     refine hK.out _ _ (S10.out _ KA.out) (fun hHeld10 => ?_)
     clear hK K
     try simp only [Act.put, tA, tZ, tS]
     refine wpAnyH_done (by kernel_rfl) ?_ _
     refine NoPanic.normal ?_
     obtain ⟨WA, hWA⟩ : ∃ WA, WA = ((w9.setCell ⟨pk, 0, none⟩ (.string sk)).setCell ⟨pk, 1, none⟩ (.int .i64 ek)) := ⟨_, rfl⟩
     rw [← hWA] at KA LA KB MA
     clear T10 M0 p0 p1 p2 p3 HK9 hk8
     go_wp2
     rw [← hWA]
     clear hWA
     have LB : LT w0 w1 pl pf m (.slice (some ⟨b2, o2, none⟩) l.length cap2) l T WA.drew := LA.out.below (Below.refl _ _).drew
     obtain ⟨W11, hup, F11, K11⟩ := HP.out WA.drew MA.out
     have L11 : Hid (LT w0 w1 pl pf m (.slice (some ⟨b2, o2, none⟩) l.length cap2) l T W11) := LB.upd T1.out K11 F11
     have TA := S10.out _ KA.out.drew
     have T11 : WA.drew.cell? ⟨pf, 0, none⟩ = some (.map (some m)) ∧ WA.drew.cell? ⟨b, o + j, none⟩ = some (.int .i64 (k : Int)) ∧ WA.drew.cell? ⟨pk, 0, none⟩ = some (.string sk) ∧ WA.drew.cell? ⟨pk, 1, none⟩ = some (.int .i64 ek) := ⟨TA.2.2.2.2.2.2.1, TA.2.1, cell_of_row WA.drew pk 0 _ _ _ KB.out, cell_of_row WA.drew pk 1 _ _ _ KB.out⟩
     have n1 : pf ≠ m := LB.ts.ne.2
     have n2 : pk ≠ m := HN1.out.2.2.1.symm
     have T12 : W11.cell? ⟨pf, 0, none⟩ = some (.map (some m)) ∧ W11.cell? ⟨b, o + j, none⟩ = some (.int .i64 (k : Int)) ∧ W11.cell? ⟨pk, 0, none⟩ = some (.string sk) ∧ W11.cell? ⟨pk, 1, none⟩ = some (.int .i64 ek) := ⟨K11.cell (a := ⟨pf, 0, none⟩) n1 T11.1, K11.cell (a := ⟨b, o + j, none⟩) hbm T11.2.1, K11.cell (a := ⟨pk, 0, none⟩) n2 T11.2.2.1, K11.cell (a := ⟨pk, 1, none⟩) n2 T11.2.2.2⟩
     clear TA LB n1 n2 K11 F11 HN1 S10 KA KB MA LA HP C9
     refine wp_region_noPanic ?_
     refine wp_region_held_drew (S := (fun W => W.cell? ⟨pf, 0, none⟩ = some (.map (some m)) ∧ W.cell? ⟨b, o + j, none⟩ = some (.int .i64 (k : Int)) ∧ W.cell? ⟨pk, 0, none⟩ = some (.string sk) ∧ W.cell? ⟨pk, 1, none⟩ = some (.int .i64 ek))) (by kernel_rfl) T11 (fun hHeld => ?_)
     refine wpAnyH_take (i := 0) (oi := ⟨some 49, .load 142 (.tmp 2), 142, "along.go:63", #[], none⟩) (v := ?_) rfl (by kernel_rfl) (by kernel_rfl) (by kernel_rfl) (fun _ _ _ h => h) (Or.inl ⟨by kernel_rfl, ?_⟩) (by assumption) ?_
     rotate_left 1
     ·(intro wS hSw; (try dsimp only at hSw); go_simp; try with_reducible rfl)
     try simp only [Act.put, tA, tZ, tS]
     refine wpAnyH_take (i := 1) (oi := ⟨some 50, .move (.tmp 6), 28, "along.go:63", #[], none⟩) (v := ?_) rfl (by kernel_rfl) (by kernel_rfl) (by kernel_rfl) (fun _ _ _ h => h) (Or.inl ⟨by kernel_rfl, ?_⟩) (by assumption) ?_
     rotate_left 1
     ·(intro wS hSw; (try dsimp only at hSw); go_simp; try with_reducible rfl)
     try simp only [Act.put, tA, tZ, tS]
     refine wpAnyH_take (i := 2) (oi := ⟨some 51, .move (.tmp 9), 3, "along.go:63", #[], none⟩) (v := ?_) rfl (by kernel_rfl) (by kernel_rfl) (by kernel_rfl) (fun _ _ _ h => h) (Or.inl ⟨by kernel_rfl, ?_⟩) (by assumption) ?_
     rotate_left 1
     ·(intro wS hSw; (try dsimp only at hSw); go_simp; try with_reducible rfl)
     try simp only [Act.put, tA, tZ, tS]
     refine wpAnyH_take (i := 3) (oi := ⟨some 52, .indexAddr 28 (.tmp 50) (.tmp 51), 0, "along.go:63", #[⟨1, .data⟩, ⟨2, .data⟩], none⟩) (v := ?_) rfl (by kernel_rfl) (by kernel_rfl) (by kernel_rfl) (fun _ _ _ h => h) (Or.inl ⟨by kernel_rfl, ?_⟩) (by assumption) ?_
     rotate_left 1
     ·(intro wS hSw; (try dsimp only at hSw); go_simp; try with_reducible rfl)
     try simp only [Act.put, tA, tZ, tS]
     refine wpAnyH_take (i := 4) (oi := ⟨some 53, .load 3 (.tmp 52), 3, "along.go:63", #[⟨3, .data⟩], none⟩) (v := ?_) rfl (by kernel_rfl) (by kernel_rfl) (by kernel_rfl) (fun _ _ _ h => h) (Or.inl ⟨by kernel_rfl, ?_⟩) (by assumption) ?_
     rotate_left 1
     ·(intro wS hSw; (try dsimp only at hSw); go_simp; try with_reducible rfl)
     try simp only [Act.put, tA, tZ, tS]
     refine wpAnyH_take (i := 5) (oi := ⟨some 54, .load 146 (.tmp 10), 146, "along.go:63", #[], none⟩) (v := ?_) rfl (by kernel_rfl) (by kernel_rfl) (by kernel_rfl) (fun _ _ _ h => h) (Or.inl ⟨by kernel_rfl, ?_⟩) (by assumption) ?_
     rotate_left 1
     ·(intro wS hSw; (try dsimp only at hSw); go_simp; try with_reducible rfl)
     try simp only [Act.put, tA, tZ, tS]
     refine wpAnyH_ready (rs := [6]) (by kernel_rfl) (by simp) ?_
     refine AllReadyH.cons (o := ⟨none, .mapUpdate 142 (.tmp 49) (.tmp 53) (.tmp 54), 0, "along.go:63", #[⟨0, .data⟩, ⟨4, .data⟩, ⟨5, .data⟩, ⟨0, .phase⟩, ⟨1, .phase⟩, ⟨2, .phase⟩, ⟨3, .phase⟩, ⟨4, .phase⟩, ⟨5, .phase⟩], none⟩) rfl (fun K hK => ?_) AllReadyH.nil
     refine step_unit rfl W11 (ex_update 142 (.tmp 49) (.tmp 53) (.tmp 54) rfl _ _ _ rfl rfl rfl hup) ?_
     refine hK.out _ _ (T12) (fun _ => ?_)
     clear hK K
     try simp only [Act.put, tA, tZ, tS]
     refine wpAnyH_done (by kernel_rfl) ?_ _
     refine NoPanic.normal ?_
     clear hup T11
     obtain ⟨_, _, e0, e1⟩ := T12
     obtain ⟨k0, k1, k2, k3⟩ := L11.out.cells
     have L9 := L11.out.put T1.out (txq l k)
     obtain ⟨g0, g1, g2, g3⟩ := L9.cells
     rw [← HSKE.out.1, ← HSKE.out.2] at L9
     rw [← HSKE.out.1, ← HSKE.out.2] at g0 g1
     rw [← HSKE.out.1, ← HSKE.out.2] at g2 g3
     have HL9 := Lib.hid L9
     clear L9
     have FA := Lib.hid (told_again HWay.out hQ.out HK.out HR.out)
     by_cases ce : ek = 0
     ·subst ce
      go_wp2
      go_roundw
      case rel => exact ⟨j, _, by go_num, HL9, FA.out.1 HSKE.out.2.symm⟩
      case measure => simp [intOf]
     ·have hRT : R = txq l k := FA.out.2 (by rw [← HSKE.out.2]; exact ce)
      have hR1 : Hid (bs R.1 = sk ∧ R.2 = ek) := by rw [hRT]; exact ⟨HSKE.out.1.symm, HSKE.out.2.symm⟩
      clear FA HSKE HR HK hRT
      go_wp2
      go_quiet (fail)
      go_wp2
      go_ret2
      refine ⟨by rw [hR1.out.1, hR1.out.2]; rfl, (HL9.out.below (below_drewN (Below.refl _ _) _)).ts, K1.out.trans (HL9.out.below (below_drewN (Below.refl _ _) _)).kp⟩
 ·have e1 : textR l at_ = ([], er) := by unfold textR; rw [hR, if_neg c]
  rw [e1]
  rw [hR] at C1
  dsimp only at C1 ⊢
  have e0 : bs [] = ⟨#[]⟩ := rfl
  rw [e0]
  clear hR e1 h
  go_enter Tryz.func85, Tryz.ntmps85
  go_wp2_with fail
  refine (C1.out _ hrow.out).mono ?_
  rintro e w1 ⟨u, rfl, hO, B1⟩
  have L1 := Lib.hid (H0.out.below B1)
  have L2 : Hid (Keep (fun j => j ≠ m) w w1) := Keep.all B1
  clear B1 hO C1 hrow H0
  go_wp2
  go_ret2
  exact ⟨rfl, L1.out, L2.out⟩
end Go.Proofs.YtnmjcpoobabjgaaGreatDoor
