import Derived.Test.YtnmjcpoobabjgaaGreatDoorGCm
import Derived.Test.YtnmjcpoobabjgaaGreatDoorFfm
import Derived.Test.YtnmjcpoobabjgaaGreatDoorHF
set_option linter.unusedVariables false
set_option linter.unusedSimpArgs false
/- A part that is read; parts that are read. -/
namespace Go.Proofs.YtnmjcpoobabjgaaGreatDoor
set_option maxRecDepth 100000
open Go.RowKit Classical
/- rows of the call's own that lie apart -/
def Sep (u v : Value) : Prop := ∀ g, u.ownBlock = some g → v.ownBlock ≠ some g
theorem Sep.symm {u v : Value} (h : Sep u v) : Sep v u := fun g h1 h2 => h g h2 h1
theorem app_gs {α β : Type} {t e m bytes : Nat} {z : Value} {g : α → Nat → Value} {d : α} (ht : Tryz.prog.underlying t = some (.slice e)) (hi : (Tryz.prog.info? e).map (fun i => (i.zero, i.size, i.bytes)) = some (some z, m, bytes)) (hzs : z.cells.size = m) (hm : 0 < m) (hby : bytes ≤ 64) (h1 : ∀ x j, (g x j).oneCell' = true)
    {e2 m2 : Nat} {g2 : β → Nat → Value} {d2 : β} {B : Nat} {w : World} {v u : Value} {l : List α} {l2 : List β} (x : α) (A : Array Value) (hA : A = arr m (g x)) (h : OwnG e m g d w B v l) (h2 : OwnG e2 m2 g2 d2 w B u l2) (hs : Sep v u) (hB : B ≤ w.heap.size) (hn : l.length + 1 ≤ 100000) :
    ∃ b cap w', (Builtin.append_ #[t, t] t #[v, .slice (some ⟨w.heap.size, 0, none⟩) 1 1]).run Tryz.prog (w.alloc (.cells A e)) = .ok (.slice (some ⟨b, 0, none⟩) (l.length + 1) cap) w' ∧
      OwnG e m g d w' B (.slice (some ⟨b, 0, none⟩) (l.length + 1) cap) (l ++ [x]) ∧ OwnG e2 m2 g2 d2 w' B u l2 ∧ Sep (.slice (some ⟨b, 0, none⟩) (l.length + 1) cap) u ∧ Below B w w' := by
  have hh : w.ownsRow B e m v l.length (arr (l.length * m) (cf m g d (l ++ [x]))).toList := by
    have e : arr (l.length * m) (cf m g d l) = arr (l.length * m) (cf m g d (l ++ [x])) := arr_congr fun i hi => (cf_snoc g d l x i hm hi).symm
    rw [← e]
    exact h
  obtain ⟨b, cap, w', hr, ho, hk, hat⟩ := app_own ht hi hzs hm hby A (hA.trans (cf_last g d l x)) (fun j => h1 _ _) hh hB hn
  refine ⟨b, cap, w', hr, ?_, owns_keep h2 hk fun k hk1 hk2 => hs k hk2 hk1, fun k hk1 hk2 => ?_, hk.os, hk.tape, hk.output, hk.size, fun k hkB => hk.block k (fun e => ?_) (by omega)⟩
  · unfold OwnG
    rw [List.length_append, List.length_singleton]
    exact ho
  · obtain rfl : b = k := by simpa [Value.ownBlock] using hk1
    rcases hat with hat | hat
    · exact hs b hat hk2
    · have := own_lt h2 hk2
      omega
  · have := own_lt h e
    omega
theorem app_ps {B : Nat} {w : World} {v u : Value} {l : List Pt} {l2 : List Nat} (x : Pt) (h : OwnP w B v l) (h2 : OwnN w B u l2) (hs : Sep v u) (hB : B ≤ w.heap.size) (hn : l.length + 1 ≤ 100000) :
    ∃ b cap w', (Builtin.append_ #[22, 22] 22 #[v, .slice (some ⟨w.heap.size, 0, none⟩) 1 1]).run Tryz.prog (w.alloc (.cells #[.bool x.d, .int .i64 x.b, .string (bs x.t)] 60)) = .ok (.slice (some ⟨b, 0, none⟩) (l.length + 1) cap) w' ∧
      OwnP w' B (.slice (some ⟨b, 0, none⟩) (l.length + 1) cap) (l ++ [x]) ∧ OwnN w' B u l2 ∧ Sep (.slice (some ⟨b, 0, none⟩) (l.length + 1) cap) u ∧ Below B w w' := app_gs tPt iPt rfl (by decide) (by decide) gP_one x _ rfl h h2 hs hB hn
theorem app_ns {B : Nat} {w : World} {v u : Value} {l : List Nat} {l2 : List Pt} (x : Nat) (h : OwnN w B v l) (h2 : OwnP w B u l2) (hs : Sep v u) (hB : B ≤ w.heap.size) (hn : l.length + 1 ≤ 100000) :
    ∃ b cap w', (Builtin.append_ #[28, 28] 28 #[v, .slice (some ⟨w.heap.size, 0, none⟩) 1 1]).run Tryz.prog (w.alloc (.cells #[.int .i64 (x : Int)] 3)) = .ok (.slice (some ⟨b, 0, none⟩) (l.length + 1) cap) w' ∧
      OwnN w' B (.slice (some ⟨b, 0, none⟩) (l.length + 1) cap) (l ++ [x]) ∧ OwnP w' B u l2 ∧ Sep (.slice (some ⟨b, 0, none⟩) (l.length + 1) cap) u ∧ Below B w w' := app_gs tIs iIs rfl (by decide) (by decide) (fun _ _ => rfl) x _ rfl h h2 hs hB hn
theorem three_set10 {w : World} {p : Nat} {E : TypeId} {x y z : Value} (h : w.heap[p]? = some (.cells #[x, y, z] E (0, 0))) (a b c : Value) : (((w.setCell ⟨p, 0, none⟩ a).setCell ⟨p, 1, none⟩ b).setCell ⟨p, 2, none⟩ c).heap[p]? = some (.cells #[a, b, c] E (0, 0)) := by
  rw [heap_setCell_same _ p 2 _ E _ (heap_setCell_same _ p 1 _ E _ (heap_setCell_same w p 0 _ E _ h))]; rfl
theorem Rd.more {w : World} {r : Nat} {l p e} (h : Rd w r l p e) (o : Obj) : Rd (w.alloc o) r l p e := h.keep (K := fun _ => True) (Keep.alloc (Keep.refl _ w) o) trivial
set_option maxHeartbeats 2000000 in
theorem rpart_any {w : World} {r : Nat} {d : List UInt8} {p : Nat} (i : Nat) (h : Rd w r d p 0) (hp : p ≤ d.length) (hl : d.length ≤ 281474976710656) (hi : i ≤ 1000) :
    Calls Tryz.prog 64 #[.agg #[.pointer (some ⟨r, 0, none⟩)], .int .i64 (i : Int)] w fun v w' => v = .returned (ptv (rpt d p i).1) ∧ Rd w' r d (rpt d p i).2.1 (rpt d p i).2.2 ∧ Keep (fun k => k ≠ r) w w' := by
  obtain ⟨n, p1, e1, h1⟩ : ∃ n p1 e1, rNum 200 d p 0 = (n, p1, e1) := ⟨_, _, _, rfl⟩
  obtain ⟨t, p2, e2, h2⟩ : ∃ t p2 e2, rText 65536 d p1 e1 = (t, p2, e2) := ⟨_, _, _, rfl⟩
  have hp1 : p1 ≤ d.length := by have := rNum_le 200 d p 0 hp; rw [h1] at this; exact this
  have hn : n ≤ 200 := by have := (num_value 200 d p (by decide)).1; rw [h1] at this; dsimp only at this; omega
  have hR : rpt d p i = (⟨decide (0 < n), if 0 < n then (i : Int) - (n : Int) else 0, t⟩, p2, e2) := by unfold rpt; rw [h1]; dsimp only; rw [h2]
  rw [hR]
  dsimp only
  obtain ⟨xd, hxd⟩ : ∃ xd, xd = decide (0 < n) := ⟨_, rfl⟩
  obtain ⟨xb, hxb⟩ : ∃ xb : Int, xb = if 0 < n then (i : Int) - (n : Int) else 0 := ⟨_, rfl⟩
  have HX : Hid ((0 < n ∧ xd = true ∧ xb = (i : Int) - (n : Int)) ∨ (n = 0 ∧ xd = false ∧ xb = 0)) := by
    by_cases c : 0 < n
    · exact Or.inl ⟨c, by rw [hxd, decide_eq_true c], by rw [hxb, if_pos c]⟩
    · exact Or.inr ⟨by omega, by rw [hxd, decide_eq_false c], by rw [hxb, if_neg c]⟩
  rw [← hxd, ← hxb]
  have C1 : Hid (∀ W, Rd W r d p 0 → Calls Tryz.prog 61 #[.pointer (some ⟨r, 0, none⟩), .int .i64 200] W fun v w' => v = .returned (.int .i64 (n : Int)) ∧ Rd w' r d p1 e1 ∧ Keep (fun k => k ≠ r) W w') := fun W hW => by
    have := rnum_any (200 : Int) hW hp hl
    rw [h1] at this
    exact this
  have C2 : Hid (∀ W, Rd W r d p1 e1 → Calls Tryz.prog 68 #[.pointer (some ⟨r, 0, none⟩), .int .i64 65536] W fun v w' => v = .returned (.string (bs t)) ∧ Rd w' r d p2 e2 ∧ Keep (fun k => k ≠ r) W w') := fun W hW => by
    have := rtext_any (65536 : Int) hW hp1 hl
    rw [h2] at this
    exact this
  have R0 : Hid (Rd ((w.alloc (.cells #[.pointer (some ⟨r, 0, none⟩)] 82)).alloc (.cells #[.bool false, .int .i64 0, .string ⟨#[]⟩] 60)) r d p 0) := (h.more _).more _
  have K0 : Hid (Keep (fun k => k ≠ r) w ((w.alloc (.cells #[.pointer (some ⟨r, 0, none⟩)] 82)).alloc (.cells #[.bool false, .int .i64 0, .string ⟨#[]⟩] 60))) := ((Keep.refl _ w).alloc _).alloc _
  have A0 : Hid (((w.alloc (.cells #[.pointer (some ⟨r, 0, none⟩)] 82)).alloc (.cells #[.bool false, .int .i64 0, .string ⟨#[]⟩] 60)).heap[w.heap.size]? = some (.cells #[.pointer (some ⟨r, 0, none⟩)] 82 (0, 0))) := heap_alloc2_old _ _ _
  have P0 : Hid (((w.alloc (.cells #[.pointer (some ⟨r, 0, none⟩)] 82)).alloc (.cells #[.bool false, .int .i64 0, .string ⟨#[]⟩] 60)).heap[w.heap.size + 1]? = some (.cells #[.bool false, .int .i64 0, .string ⟨#[]⟩] 60 (0, 0))) := by
    show _ = _
    have := heap_alloc_new (w.alloc (.cells #[.pointer (some ⟨r, 0, none⟩)] 82)) (.cells #[.bool false, .int .i64 0, .string ⟨#[]⟩] 60)
    rwa [World.size_alloc] at this
  have HR : Hid (r < w.heap.size) := h.lt
  obtain ⟨W0, hW0⟩ : ∃ W0, W0 = ((w.alloc (.cells #[.pointer (some ⟨r, 0, none⟩)] 82)).alloc (.cells #[.bool false, .int .i64 0, .string ⟨#[]⟩] 60)) := ⟨_, rfl⟩
  rw [← hW0] at R0 K0 A0 P0
  have HW0 := Lib.hid hW0
  obtain ⟨ts, hts⟩ : ∃ ts, ts = bs t := ⟨_, rfl⟩
  unfold ptv
  dsimp only
  rw [← hts] at C2 ⊢
  clear h1 h2 hR h hW0 hts hxd hxb
  have c0 := cell_of_row _ _ 0 _ _ _ A0.out
  go_enter Tryz.func64, Tryz.ntmps64
  go_upto_region 1 with fail
  rw [show ((w.alloc (.cells #[.pointer (some ⟨r, 0, none⟩)] 82)).alloc (.cells #[.bool false, .int .i64 0, .string ⟨#[]⟩] 60)) = W0 from HW0.out.symm]
  clear HW0
  go_wp2_with fail
  refine (C1.out _ R0.out).mono ?_
  rintro e w3 ⟨rfl, R3, K3⟩
  have HR3 := Lib.hid R3
  have A3 : Hid (w3.heap[w.heap.size]? = some (.cells #[.pointer (some ⟨r, 0, none⟩)] 82 (0, 0))) := K3.at (by have := HR.out; omega) A0.out
  have P3 : Hid (w3.heap[w.heap.size + 1]? = some (.cells #[.bool false, .int .i64 0, .string ⟨#[]⟩] 60 (0, 0))) := K3.at (by have := HR.out; omega) P0.out
  have HK3 : Hid (Keep (fun k => k ≠ r) w w3) := K0.out.trans K3
  have c3 := cell_of_row _ _ 0 _ _ _ A3.out
  clear R3 K3 c0 A0 P0 K0 R0 C1
  have HW3 : Hid (w.heap.size + 1 < w3.heap.size) := lt_of_block P3.out
  have cw : IntKind.i64.wrap ((i : Int) - (n : Int)) = (i : Int) - (n : Int) := IntWalk.i64_in _ (by omega)
  rcases HX.out with ⟨c, rfl, rfl⟩ | ⟨rfl, rfl, rfl⟩
  all_goals
    try have cd : (0 : Int) < (n : Int) := by omega
    clear HX
    go_wp2_with fail
    refine (C2.out _ HR3.out).mono ?_
    rintro e w4 ⟨rfl, R4, K4⟩
    have P4 : Hid (w4.heap[w.heap.size + 1]? = some (.cells #[.bool false, .int .i64 0, .string ⟨#[]⟩] 60 (0, 0))) := K4.at (by have := HR.out; omega) P3.out
    have HR4 := Lib.hid R4
    have HK4 : Hid (Keep (fun k => k ≠ r) w w4) := HK3.out.trans K4
    have HW4 : Hid (w.heap.size + 1 < w4.heap.size) := lt_of_block P4.out
    clear R4 K4 c3 A3 P3 HR3 C2 HK3
    have q0 : ∀ o, (w4.alloc o).heap[w.heap.size + 1]? = some (.cells #[.bool false, .int .i64 0, .string ⟨#[]⟩] 60 (0, 0)) := fun o => by rw [((Below.refl w4.heap.size w4).alloc (Nat.le_refl _) o).block _ HW4.out]; exact P4.out
    have HQ0 := Lib.hid q0
    have d0 := fun o => cell_of_row _ _ 0 _ _ _ (q0 o)
    have d1 := fun o => cell_of_row _ _ 1 _ _ _ (q0 o)
    have d2 := fun o => cell_of_row _ _ 2 _ _ _ (q0 o)
    have f0 := fun o => frozen_of_row _ _ 0 _ _ (q0 o)
    have f1 := fun o => frozen_of_row _ _ 1 _ _ (q0 o)
    have f2 := fun o => frozen_of_row _ _ 2 _ _ (q0 o)
    have HKs : Hid (∀ o x y z, Keep (fun k => k ≠ r) w ((((w4.alloc o).setCell ⟨w.heap.size + 1, 0, none⟩ x).setCell ⟨w.heap.size + 1, 1, none⟩ y).setCell ⟨w.heap.size + 1, 2, none⟩ z)) := fun o x y z => (((HK4.out.alloc o).setNew (by show w.heap.size ≤ w.heap.size + 1; omega) x).setNew (by show w.heap.size ≤ w.heap.size + 1; omega) y).setNew (by show w.heap.size ≤ w.heap.size + 1; omega) z
    have HRs : Hid (∀ o x y z, Rd ((((w4.alloc o).setCell ⟨w.heap.size + 1, 0, none⟩ x).setCell ⟨w.heap.size + 1, 1, none⟩ y).setCell ⟨w.heap.size + 1, 2, none⟩ z) r d p2 e2) := fun o x y z => by
      have hne : r ≠ w.heap.size + 1 := by have := HR.out; omega
      unfold Rd
      rw [heap_setCell_other _ ⟨w.heap.size + 1, 2, none⟩ r _ hne, heap_setCell_other _ ⟨w.heap.size + 1, 1, none⟩ r _ hne, heap_setCell_other _ ⟨w.heap.size + 1, 0, none⟩ r _ hne]
      exact HR4.out.more o
    clear q0 P4 HW3
    go_wp2
    first
    | exact bodyPost_ret (v := .agg #[.bool true, .int .i64 ((i : Int) - (n : Int)), .string ts]) (results_cell_row rfl _ _ (w.heap.size + 1) _ _ _ _ rfl (three_set10 (HQ0.out _) _ _ _) Tryz.underlying60 rfl (by kernel_rfl)) rfl ⟨rfl, HRs.out _ _ _ _, HKs.out _ _ _ _⟩
    | exact bodyPost_ret (v := .agg #[.bool false, .int .i64 0, .string ts]) (results_cell_row rfl _ _ (w.heap.size + 1) _ _ _ _ rfl (three_set10 (HQ0.out _) _ _ _) Tryz.underlying60 rfl (by kernel_rfl)) rfl ⟨rfl, HRs.out _ _ _ _, HKs.out _ _ _ _⟩
end Go.Proofs.YtnmjcpoobabjgaaGreatDoor
/- Parts that are read: a loop of labels. -/
namespace Go.Proofs.YtnmjcpoobabjgaaGreatDoor
set_option maxRecDepth 100000
open Go.RowKit Classical
theorem Keep.under {K : Nat → Prop} {B : Nat} {w w1 w2 : World} (h : Keep K w w1) (hb : Below B w1 w2) (hB : w.heap.size ≤ B) : Keep K w w2 :=
 ⟨hb.os.trans h.os, hb.tape.trans h.tape, hb.output.trans h.output, Nat.le_trans h.size hb.size, fun k hk hl => (hb.block k (by omega)).trans (h.block k hk hl)⟩
/- what the whole comes to, said from where the reading stands -/
def Rst (d : List UInt8) (n p : Nat) (e : Int) (L : List Pt) (S : List Nat) : List Pt × List Nat × Bool :=
 if e = 0 then (L ++ (rps d (n - L.length) p L.length).1, S ++ (rps d (n - L.length) p L.length).2.1, (rps d (n - L.length) p L.length).2.2.2 && decide (d.length ≤ (rps d (n - L.length) p L.length).2.2.1)) else (L, S, false)
theorem Rst.full {d : List UInt8} {n p : Nat} {e : Int} {L : List Pt} {S : List Nat} (h : L.length = n) : Rst d n p e L S = (L, S, decide (endOf d.length p e = 0)) := by
 unfold Rst endOf
 by_cases c : e = 0
 ·subst c
  rw [if_pos rfl, h, Nat.sub_self, rps]
  simp
 ·rw [if_neg c, if_pos c, decide_eq_false c]
theorem Rst.step {d : List UInt8} {n p : Nat} {L : List Pt} {S : List Nat} (h : L.length < n) (h0 : (rpt d p L.length).2.2 = 0) : Rst d n p 0 L S = Rst d n (rpt d p L.length).2.1 0 (L ++ [(rpt d p L.length).1]) (S ++ [p]) := by
 unfold Rst
 rw [if_pos rfl, if_pos rfl, show n - L.length = (n - (L ++ [(rpt d p L.length).1]).length) + 1 by simp; omega, rps, if_pos h0]
 simp
theorem Rst.bad {d : List UInt8} {n p : Nat} {L : List Pt} {S : List Nat} (h : L.length < n) (h0 : (rpt d p L.length).2.2 ≠ 0) : Rst d n p 0 L S = (L, S, false) := by
 unfold Rst
 rw [if_pos rfl, show n - L.length = (n - L.length - 1) + 1 by omega, rps, if_neg h0]
 simp
theorem prd_mark {d : List UInt8} (h : d.take 4 = mark) : prd d = Rst d (rNum 200 d 4 0).1 (rNum 200 d 4 0).2.1 (rNum 200 d 4 0).2.2 [] [] := by
 unfold prd Rst
 by_cases c : (rNum 200 d 4 0).2.2 = 0
 ·rw [if_pos ⟨h, c⟩, if_pos c]; simp
 ·rw [if_neg (fun k => c k.2), if_neg c]
theorem num_bad {most : Int} {d : List UInt8} {p : Nat} (h : (rNum most d p 0).2.2 ≠ 0) : (rNum most d p 0).1 = 0 := by
 unfold rNum at h ⊢
 rw [if_neg (by simp)] at h ⊢
 split at h
 ·rename_i c; rw [if_pos c]
 ·exact absurd rfl h
/- a row's length -/
def slen (v : Value) : Nat := match v with | .slice _ n _ => n | _ => 0
def partsM (lab : Nat) (a : Act) (_ : World) : Nat := if lab = 0 then 0 else 1 + ((intOf (a.tmps.getD 5 undef)).toNat - slen (a.tmps.getD 2 undef))
def PartsJ0 (r : Nat) (R : List Pt × List Nat × Bool) (w : World) (lab : Nat) (a : Act) (w' : World) : Prop :=
 lab = 0 ∧ Keep (fun k => k ≠ r) w w' ∧ ∃ (vl vs : Value) (q : Bool) (u5 u6 u8 u9 u10 u11 u12 u13 u14 u15 u16 u17 u18 u19 u20 u21 u22 u23 u24 u25 u26 u27 u28 u29 u30 u31 u32 u33 u34 u35 u36 u37 u38 u39 u40 u41 u42 u43 u44 : Value), a = { tmps := #[.agg #[.pointer (some ⟨r, 0, none⟩)], .pointer (some ⟨w.heap.size, 0, none⟩), vl, vs, .bool q, u5, u6, .pointer (some ⟨w.heap.size + 1, 0, none⟩), u8, u9, u10, u11, u12, u13, u14, u15, u16, u17, u18, u19, u20, u21, u22, u23, u24, u25, u26, u27, u28, u29, u30, u31, u32, u33, u34, u35, u36, u37, u38, u39, u40, u41, u42, u43, u44], defers := [] } ∧ OwnP w' w.heap.size vl R.1 ∧ OwnN w' w.heap.size vs R.2.1 ∧ q = R.2.2
structure PSt (r : Nat) (d : List UInt8) (R : List Pt × List Nat × Bool) (w : World) (n p : Nat) (e : Int) (L : List Pt) (S : List Nat) (vl vs : Value) (w' : World) : Prop where
 kp : Keep (fun k => k ≠ r) w w'
 op : OwnP w' (w.heap.size + 2) vl L
 on : OwnN w' (w.heap.size + 2) vs S
 sp : Sep vl vs
 rd : Rd w' r d p e
 hp : p ≤ d.length
 hb : w'.heap[w.heap.size]? = some (.cells #[.pointer (some ⟨r, 0, none⟩)] 82 (0, 0))
 hc : ∃ x y z, w'.heap[w.heap.size + 1]? = some (.cells #[x, y, z] 60 (0, 0))
 hn : L.length ≤ n
 n2 : n ≤ 200
 ls : S.length = L.length
 he : e ≠ 0 → L.length = n
 hR : R = Rst d n p e L S
def PartsJ (r : Nat) (d : List UInt8) (R : List Pt × List Nat × Bool) (w : World) (lab : Nat) (a : Act) (w' : World) : Prop :=
 PartsJ0 r R w lab a w' ∨
 (lab = 1 ∧ ∃ (n p : Nat) (e : Int) (L : List Pt) (S : List Nat) (vl vs u6 u8 u9 u10 u11 u12 u13 u14 u15 u16 u17 u18 u19 u20 u21 u22 u23 u24 u25 u26 u27 u28 u29 u30 u31 u32 u33 u34 u35 u36 u37 u38 u39 u40 u41 u42 u43 u44 : Value), a = { tmps := #[.agg #[.pointer (some ⟨r, 0, none⟩)], .pointer (some ⟨w.heap.size, 0, none⟩), vl, vs, .bool false, .int .i64 (n : Int), u6, .pointer (some ⟨w.heap.size + 1, 0, none⟩), u8, u9, u10, u11, u12, u13, u14, u15, u16, u17, u18, u19, u20, u21, u22, u23, u24, u25, u26, u27, u28, u29, u30, u31, u32, u33, u34, u35, u36, u37, u38, u39, u40, u41, u42, u43, u44], defers := [] } ∧ PSt r d R w n p e L S vl vs w')
theorem PSt.lt {r : Nat} {d : List UInt8} {R : List Pt × List Nat × Bool} {w : World} {n p : Nat} {e : Int} {L : List Pt} {S : List Nat} {vl vs : Value} {w' : World} (h : PSt r d R w n p e L S vl vs w') : w.heap.size + 1 < w'.heap.size := by
 obtain ⟨x, y, z, hc⟩ := h.hc
 exact lt_of_block hc
/- calls that change the reader alone -/
theorem PSt.move {r : Nat} {d : List UInt8} {R : List Pt × List Nat × Bool} {w : World} {n p : Nat} {e : Int} {L : List Pt} {S : List Nat} {vl vs : Value} {w' w2 : World} (h : PSt r d R w n p e L S vl vs w') (hr : r < w.heap.size) (hk : Keep (fun k => k ≠ r) w' w2) :
  Keep (fun k => k ≠ r) w w2 ∧ OwnP w2 (w.heap.size + 2) vl L ∧ OwnN w2 (w.heap.size + 2) vs S ∧ w2.heap[w.heap.size]? = some (.cells #[.pointer (some ⟨r, 0, none⟩)] 82 (0, 0)) ∧ ∃ x y z, w2.heap[w.heap.size + 1]? = some (.cells #[x, y, z] 60 (0, 0)) := by
 obtain ⟨x, y, z, hc⟩ := h.hc
 exact ⟨h.kp.trans hk, h.op.keep hk (fun g hg => by show g ≠ r; omega), h.on.keep hk (fun g hg => by show g ≠ r; omega), hk.at (by show w.heap.size ≠ r; omega) h.hb, x, y, z, hk.at (by show w.heap.size + 1 ≠ r; omega) hc⟩
set_option maxHeartbeats 4000000 in
theorem rparts_any {w : World} {r : Nat} {d : List UInt8} (h : Rd w r d 0 0) (hl : d.length ≤ 281474976710656) :
  Calls Tryz.prog 38 #[.agg #[.pointer (some ⟨r, 0, none⟩)]] w fun v w' => ∃ vl vs, v = .returned (.tuple #[vl, vs, .bool (prd d).2.2]) ∧ OwnP w' w.heap.size vl (prd d).1 ∧ OwnN w' w.heap.size vs (prd d).2.1 ∧ Keep (fun k => k ≠ r) w w' := by
 have HRr : Hid (r < w.heap.size) := h.lt
 obtain ⟨s, q1, e1, h1⟩ : ∃ s q1 e1, rRaw 4 d 0 0 = (s, q1, e1) := ⟨_, _, _, rfl⟩
 have C1 : Hid (∀ W, Rd W r d 0 0 → Calls Tryz.prog 60 #[.pointer (some ⟨r, 0, none⟩), .int .i64 4] W fun v w' => v = .returned (.string (bs s)) ∧ Rd w' r d q1 e1 ∧ Keep (fun k => k ≠ r) W w') := fun W hW => by
  have := rraw_any (4 : Int) hW (Nat.zero_le _) hl
  rw [h1] at this
  exact this
 have R0 : Hid (Rd ((w.alloc (.cells #[.pointer (some ⟨r, 0, none⟩)] 82)).alloc (.cells #[.bool false, .int .i64 0, .string ⟨#[]⟩] 60)) r d 0 0) := (h.more _).more _
 have K0 : Hid (Keep (fun k => k ≠ r) w ((w.alloc (.cells #[.pointer (some ⟨r, 0, none⟩)] 82)).alloc (.cells #[.bool false, .int .i64 0, .string ⟨#[]⟩] 60))) := ((Keep.refl _ w).alloc _).alloc _
 have A0 : Hid (((w.alloc (.cells #[.pointer (some ⟨r, 0, none⟩)] 82)).alloc (.cells #[.bool false, .int .i64 0, .string ⟨#[]⟩] 60)).heap[w.heap.size]? = some (.cells #[.pointer (some ⟨r, 0, none⟩)] 82 (0, 0))) := heap_alloc2_old _ _ _
 have P0 : Hid (((w.alloc (.cells #[.pointer (some ⟨r, 0, none⟩)] 82)).alloc (.cells #[.bool false, .int .i64 0, .string ⟨#[]⟩] 60)).heap[w.heap.size + 1]? = some (.cells #[.bool false, .int .i64 0, .string ⟨#[]⟩] 60 (0, 0))) := by
  show _ = _
  have := heap_alloc_new (w.alloc (.cells #[.pointer (some ⟨r, 0, none⟩)] 82)) (.cells #[.bool false, .int .i64 0, .string ⟨#[]⟩] 60)
  rwa [World.size_alloc] at this
 obtain ⟨R, hR⟩ : ∃ R, R = prd d := ⟨_, rfl⟩
 rw [← hR]
 have c0 := cell_of_row _ _ 0 _ _ _ A0.out
 by_cases hm : d.take 4 = mark
 ·have hs := mark_raw_at hm
  rw [h1] at hs
  simp only [Prod.mk.injEq] at hs
  obtain ⟨rfl, rfl, rfl⟩ := hs
  have l4 : 4 ≤ d.length := by have := congrArg List.length hm; rw [List.length_take] at this; simp [mark] at this; omega
  obtain ⟨n, p1, e2, h2⟩ : ∃ n p1 e2, rNum 200 d 4 0 = (n, p1, e2) := ⟨_, _, _, rfl⟩
  have hp1 : p1 ≤ d.length := by have := rNum_le 200 d 4 0 l4; rw [h2] at this; exact this
  have hn : n ≤ 200 := by have := (num_value 200 d 4 (by decide)).1; rw [h2] at this; dsimp only at this; omega
  have hz : e2 ≠ 0 → n = 0 := fun hne => by have := num_bad (most := 200) (d := d) (p := 4) (by rw [h2]; exact hne); rw [h2] at this; exact this
  rw [prd_mark hm, h2] at hR
  dsimp only at hR
  have C2 : Hid (∀ W, Rd W r d 4 0 → Calls Tryz.prog 61 #[.pointer (some ⟨r, 0, none⟩), .int .i64 200] W fun v w' => v = .returned (.int .i64 (n : Int)) ∧ Rd w' r d p1 e2 ∧ Keep (fun k => k ≠ r) W w') := fun W hW => by
   have := rnum_any (200 : Int) hW l4 hl
   rw [h2] at this
   exact this
  have hmk : bs mark = ⟨#[83, 80, 75, 49]⟩ := rfl
  rw [hmk] at C1
  have HF : Hid (Rst d n p1 e2 [] [] = R ∧ p1 ≤ d.length ∧ n ≤ 200 ∧ (e2 ≠ 0 → n = 0)) := ⟨hR.symm, hp1, hn, hz⟩
  have HDL := Lib.hid hl
  clear h1 h2 h hR hm l4 hp1 hn hz hmk hl
  go_enter Tryz.func38, Tryz.ntmps38
  go_wp2
  refine wp_scope_two (PartsJ r d R w) partsM rfl rfl (fun lab a w' h => h.elim (fun h => Or.inl h.1) (fun h => Or.inr h.1)) ?_ ?_ ?_
  ·intro R' hR'
   go_wp2_with fail
   refine (C1.out _ R0.out).mono ?_
   rintro e w3 ⟨rfl, R3, K3⟩
   have HR3 := Lib.hid R3
   have A3 : Hid (w3.heap[w.heap.size]? = some (.cells #[.pointer (some ⟨r, 0, none⟩)] 82 (0, 0))) := K3.at (by have := HRr.out; omega) A0.out
   have P3 : Hid (w3.heap[w.heap.size + 1]? = some (.cells #[.bool false, .int .i64 0, .string ⟨#[]⟩] 60 (0, 0))) := K3.at (by have := HRr.out; omega) P0.out
   have HK3 : Hid (Keep (fun k => k ≠ r) w w3) := K0.out.trans K3
   have c3 := cell_of_row _ _ 0 _ _ _ A3.out
   clear R3 K3 c0 A0 P0 K0 R0 C1
   go_wp2_with fail
   refine (C2.out _ HR3.out).mono ?_
   rintro e w4 ⟨rfl, R4, K4⟩
   have HS : Hid (PSt r d R w n p1 e2 [] [] (.slice none 0 0) (.slice none 0 0) w4) :=
    ⟨HK3.out.trans K4, OwnG.nil _ _ _ _ _ _, OwnG.nil _ _ _ _ _ _, fun g hg => (by cases hg), R4, HF.out.2.1, K4.at (by have := HRr.out; omega) A3.out, ⟨_, _, _, K4.at (by have := HRr.out; omega) P3.out⟩, Nat.zero_le _, HF.out.2.2.1, rfl, fun h => (HF.out.2.2.2 h).symm, HF.out.1.symm⟩
   clear R4 K4 c3 A3 P3 HK3 HR3 C2
   go_wp2
   go_step3
   rename_i K0 hK0
   exact hK0 _ _ (hR' _ _ (Or.inr ⟨rfl, n, p1, e2, [], [], _, _, _, _, _, _, _, _, _, _, _, _, _, _, _, _, _, _, _, _, _, _, _, _, _, _, _, _, _, _, _, _, _, _, _, _, _, _, _, _, rfl, HS.out⟩))
  ·rintro a w' (⟨-, hk, vl, vs, q, u5, u6, u8, u9, u10, u11, u12, u13, u14, u15, u16, u17, u18, u19, u20, u21, u22, u23, u24, u25, u26, u27, u28, u29, u30, u31, u32, u33, u34, u35, u36, u37, u38, u39, u40, u41, u42, u43, u44, ha, h3, h4, h5⟩ | ⟨h01, _⟩)
   ·subst ha
    have H3 := Lib.hid h3
    have H4 := Lib.hid h4
    have H5 := Lib.hid h5
    have HK := Lib.hid hk
    clear h3 h4 h5 hk c0
    go_wp2
    simp only [exitJumps]
    go_ret3
    exact ⟨vl, vs, by rw [H5.out]; rfl, H3.out, H4.out, HK.out⟩
   ·cases h01
  ·rintro a w' (⟨h01, _⟩ | ⟨-, n, p, e, L, S, vl, vs, u6, u8, u9, u10, u11, u12, u13, u14, u15, u16, u17, u18, u19, u20, u21, u22, u23, u24, u25, u26, u27, u28, u29, u30, u31, u32, u33, u34, u35, u36, u37, u38, u39, u40, u41, u42, u43, u44, ha, hS⟩)
   ·cases h01
   ·subst ha
    clear c0 C1 C2 R0 K0 A0 P0 HF
    have HS := Lib.hid hS
    have HN2 := hS.n2
    obtain ⟨al, nl, cl, hnl, rfl⟩ : ∃ ad nl cap, nl = L.length ∧ vl = .slice ad nl cap := by
     obtain ⟨x1, x2, x3⟩ := RowG.len hS.op.row
     exact ⟨_, _, _, rfl, x3⟩
    have HNL := Lib.hid hnl
    obtain ⟨as_, ns, cs, hns, rfl⟩ : ∃ ad ns cap, ns = S.length ∧ vs = .slice ad ns cap := by
     obtain ⟨x1, x2, x3⟩ := RowG.len hS.on.row
     exact ⟨_, _, _, rfl, x3⟩
    have HNS := Lib.hid hns
    clear hns
    have c1 := cell_of_row _ _ 0 _ _ _ hS.hb
    have hle := hS.hn
    rw [← hnl] at hle
    by_cases hc : nl = n
    ·have HE : Hid (R = (L, S, decide (endOf d.length p e = 0))) := by show _ = _; rw [hS.hR, Rst.full (by omega)]
     have C3 := Lib.hid (end_any hS.rd)
     subst hc
     clear hS hle hnl
     go_wp2_with fail
     refine C3.out.mono ?_
     rintro e3 w2 ⟨rfl, B2⟩
     have HB := Lib.hid (HS.out.move HRr.out (Keep.all B2))
     clear B2 c1 C3
     generalize endOf d.length p e = eo at *
     go_wp2
     go_step3
     refine ⟨Or.inl ⟨rfl, HB.out.1, _, _, _, _, _, _, _, _, _, _, _, _, _, _, _, _, _, _, _, _, _, _, _, _, _, _, _, _, _, _, _, _, _, _, _, _, _, _, _, _, _, _, rfl, ?_, ?_, ?_⟩, by show 0 < 1 + _; omega⟩
     ·rw [HE.out]; exact HB.out.2.1.mono (by omega)
     ·rw [HE.out]; exact HB.out.2.2.1.mono (by omega)
     ·rw [HE.out]; first | rfl | exact Bool.eq_iff_iff.2 (by simp)
    ·have he : e = 0 := by
      by_cases c : e = 0
      ·exact c
      ·exact absurd (hnl.trans (hS.he c)) hc
     subst he
     have hlt : Hid (L.length < n) := by show _ < _; omega
     have c5 : ¬ (nl : Int) = (n : Int) := by omega
     have C3 := Lib.hid (rat_any hS.rd)
     obtain ⟨x, p', e', hx⟩ : ∃ x p' e', rpt d p nl = (x, p', e') := ⟨_, _, _, rfl⟩
     have C4 : Hid (∀ W, Rd W r d p 0 → Calls Tryz.prog 64 #[.agg #[.pointer (some ⟨r, 0, none⟩)], .int .i64 (nl : Int)] W fun v w' => v = .returned (ptv x) ∧ Rd w' r d p' e' ∧ Keep (fun k => k ≠ r) W w') := fun W hW => by
      have := rpart_any nl hW HS.out.hp HDL.out (by omega)
      rw [hx] at this
      exact this
     have HX : Hid ((e' = 0 → R = Rst d n p' 0 (L ++ [x]) (S ++ [p]) ∧ p' ≤ d.length) ∧ (e' ≠ 0 → R = (L, S, false))) := by
      rw [hnl] at hx
      refine ⟨fun h => ⟨?_, ?_⟩, fun h => ?_⟩
      ·have := Rst.step (S := S) hlt.out (by rw [hx]; exact h)
       rw [hx] at this
       rw [hS.hR, this]
      ·have := (rpt_there hS.hp (i := L.length) (by rw [hx]; exact h)).2.1
       rw [hx] at this
       exact this
      ·rw [hS.hR, Rst.bad hlt.out (by rw [hx]; exact h)]
     clear hS hx hnl hc
     go_wp2_with fail
     refine C3.out.mono ?_
     rintro e3 w2 ⟨rfl, rfl⟩
     clear C3
     go_wp2_with fail
     refine (C4.out _ HS.out.rd).mono ?_
     rintro e3 w4 ⟨rfl, R4, K4⟩
     obtain ⟨m1, m2, m3, m4, m5x, m5y, m5z, m5⟩ := HS.out.move HRr.out K4
     have HR4 := Lib.hid R4
     have M1 := Lib.hid m1
     have M2 := Lib.hid m2
     have M3 := Lib.hid m3
     have M4 := Lib.hid m4
     have M5 := Lib.hid m5
     clear R4 K4 m1 m2 m3 m4 C4 c1
     have g0 := cell_of_row _ _ 0 _ _ _ m5
     have g1 := cell_of_row _ _ 1 _ _ _ m5
     have g2 := cell_of_row _ _ 2 _ _ _ m5
     have f0 := frozen_of_row _ _ 0 _ _ m5
     have f1 := frozen_of_row _ _ 1 _ _ m5
     have f2 := frozen_of_row _ _ 2 _ _ m5
     clear m5
     -- the world behind the store
     obtain ⟨xd, xb, xt⟩ := x
     unfold ptv
     dsimp only
     obtain ⟨W5, hW5⟩ : ∃ W5, W5 = (((w4.setCell ⟨w.heap.size + 1, 0, none⟩ (.bool xd)).setCell ⟨w.heap.size + 1, 1, none⟩ (.int .i64 xb)).setCell ⟨w.heap.size + 1, 2, none⟩ (.string (bs xt))) := ⟨_, rfl⟩
     have KS : Keep (fun k => k ≠ w.heap.size + 1) w4 W5 := by rw [hW5]; exact (((Keep.refl _ w4).setCell (fun h => h rfl) _).setCell (fun h => h rfl) _).setCell (fun h => h rfl) _
     have P5 : Hid (W5.heap[w.heap.size + 1]? = some (.cells #[.bool xd, .int .i64 xb, .string (bs xt)] 60 (0, 0))) := by show _ = _; rw [hW5]; exact three_set10 M5.out _ _ _
     have R5 : Hid (Rd W5 r d p' e') := HR4.out.keep KS (by have := HRr.out; omega)
     have A5 : Hid (W5.heap[w.heap.size]? = some (.cells #[.pointer (some ⟨r, 0, none⟩)] 82 (0, 0))) := KS.at (by omega) M4.out
     have O5 : Hid (OwnP W5 (w.heap.size + 2) (.slice al nl cl) L) := M2.out.keep KS (fun g hg => by omega)
     have N5 : Hid (OwnN W5 (w.heap.size + 2) (.slice as_ ns cs) S) := M3.out.keep KS (fun g hg => by omega)
     have K5 : Hid (Keep (fun k => k ≠ r) w W5) := by
      show Keep _ _ _
      rw [hW5]
      exact ((M1.out.setNew (by show w.heap.size ≤ w.heap.size + 1; omega) _).setNew (by show w.heap.size ≤ w.heap.size + 1; omega) _).setNew (by show w.heap.size ≤ w.heap.size + 1; omega) _
     have cA := cell_of_row _ _ 0 _ _ _ A5.out
     rw [hW5] at cA
     have HW5 := Lib.hid hW5
     have C6 : Hid (∀ W, Rd W r d p' e' → Calls Tryz.prog 65 #[.pointer (some ⟨r, 0, none⟩)] W fun v w' => v = .returned (.int .i64 e') ∧ W = w') := fun W hW => err_any hW
     clear hW5 KS M1 M2 M3 M4 M5 HR4
     go_wp2_with fail
     rw [show (((w4.setCell ⟨w.heap.size + 1, 0, none⟩ (.bool xd)).setCell ⟨w.heap.size + 1, 1, none⟩ (.int .i64 xb)).setCell ⟨w.heap.size + 1, 2, none⟩ (.string (bs xt))) = W5 from HW5.out.symm]
     clear HW5 g0 g1 g2 f0 f1 f2 cA
     refine (C6.out _ R5.out).mono ?_
     rintro e6 w6 ⟨rfl, rfl⟩
     clear C6
     by_cases ce : e' = 0
     ·subst ce
      obtain ⟨hRn, hp'⟩ := HX.out.1 rfl
      have HRn := Lib.hid hRn
      have HP' := Lib.hid hp'
      obtain ⟨b1, k1, W6, hr1, O6, N6, S6, B6⟩ := app_ps ⟨xd, xb, xt⟩ O5.out N5.out HS.out.sp (lt_of_block P5.out) (by have := HS.out.hn; omega)
      obtain ⟨b2, k2, W7, hr2, N7, O7, S7, B7⟩ := app_ns p N6 O6 S6.symm (by have := B6.size; have := lt_of_block P5.out; omega) (by have := HS.out.hn; have := HS.out.ls; omega)
      rw [← HNL.out] at hr1 O7 S7
      rw [← HNS.out] at hr2 N7 S7
      have B67 : Below (w.heap.size + 2) W5 W7 := B6.trans B7
      have HS7 : Hid (PSt r d R w n p' 0 (L ++ [⟨xd, xb, xt⟩]) (S ++ [p]) (.slice (some ⟨b1, 0, none⟩) (nl + 1) k1) (.slice (some ⟨b2, 0, none⟩) (ns + 1) k2) W7) :=
       ⟨K5.out.under B67 (by omega), O7, N7, S7.symm, by unfold Rd; rw [B67.block r (by have := HRr.out; omega)]; exact R5.out, HP'.out, by rw [B67.block _ (by omega)]; exact A5.out, ⟨_, _, _, by rw [B67.block _ (by omega)]; exact P5.out⟩, by rw [List.length_append, List.length_singleton]; have := hlt.out; omega, HS.out.n2, by rw [List.length_append, List.length_append, HS.out.ls]; rfl, fun h => absurd rfl h, HRn.out⟩
      have g0 := cell_of_row _ _ 0 _ _ _ P5.out
      have g1 := cell_of_row _ _ 1 _ _ _ P5.out
      have g2 := cell_of_row _ _ 2 _ _ _ P5.out
      clear O6 N6 S6 B6 N7 O7 S7 B7 B67 hRn hp' HX
      go_wp2_with (at_builtin; first | refine wpList_append_run rfl (.tmp 34) (.tmp 36) 22 22 rfl _ _ _ _ rfl rfl hr1 ?_ | refine wpList_append_run rfl (.tmp 38) (.tmp 40) 28 28 rfl _ _ _ _ rfl rfl hr2 ?_)
      clear hr1 hr2
      go_wp2
      go_step3
      refine ⟨Or.inr ⟨rfl, n, p', 0, _, _, _, _, _, _, _, _, _, _, _, _, _, _, _, _, _, _, _, _, _, _, _, _, _, _, _, _, _, _, _, _, _, _, _, _, _, _, _, _, _, _, rfl, HS7.out⟩, ?_⟩
      have := hlt.out
      have := HNL.out
      show 1 + ((intOf (.int .i64 (n : Int))).toNat - (nl + 1)) < 1 + ((intOf (.int .i64 (n : Int))).toNat - nl)
      simp [intOf]; omega
     ·have hRn := Lib.hid (HX.out.2 ce)
      clear HX
      go_wp2
      go_step3
      refine ⟨Or.inl ⟨rfl, K5.out, _, _, false, _, _, _, _, _, _, _, _, _, _, _, _, _, _, _, _, _, _, _, _, _, _, _, _, _, _, _, _, _, _, _, _, _, _, _, _, _, _, _, rfl, ?_, ?_, ?_⟩, by show 0 < 1 + _; omega⟩
      ·rw [hRn.out]; exact O5.out.mono (by omega)
      ·rw [hRn.out]; exact N5.out.mono (by omega)
      ·rw [hRn.out]
 ·have hs : ¬ s = mark := fun k => hm ((mark_raw d).1 (by rw [h1]; exact k))
  have HF : Hid (R = ([], [], false)) := by show _ = _; rw [hR]; unfold prd; rw [if_neg (fun k => hm k.1)]
  have h2 : ¬ (bs s).toList = (⟨#[83, 80, 75, 49]⟩ : ByteArray).toList := fun k => hs (by
   rw [ByteArray.toList_eq, ByteArray.toList_eq] at k
   have e : (bs s).data.toList = s := by simp [bs]
   rw [e] at k
   exact k)
  have e3 : (⟨#[83, 80, 75, 49]⟩ : ByteArray).toList = [83, 80, 75, 49] := by rw [ByteArray.toList_eq]
  rw [e3] at h2
  have h3 : ((bs s).toList == [83, 80, 75, 49]) = false := by simpa using h2
  clear e3
  generalize bs s = sb at *
  clear h1 h hR hm hs h2 hl
  go_enter Tryz.func38, Tryz.ntmps38
  go_wp2
  refine wp_scope_labels (PartsJ0 r R w) (fun _ _ _ => 0) ?_ ?_
  ·go_wp2_with fail
   refine (C1.out _ R0.out).mono ?_
   rintro e w3 ⟨rfl, R3, K3⟩
   have HK3 : Hid (Keep (fun k => k ≠ r) w w3) := K0.out.trans K3
   clear R3 K3 c0 A0 P0 K0 R0 C1
   go_wp2
   go_step3
   exact ⟨rfl, HK3.out, _, _, false, _, _, _, _, _, _, _, _, _, _, _, _, _, _, _, _, _, _, _, _, _, _, _, _, _, _, _, _, _, _, _, _, _, _, _, _, _, _, _, rfl, by rw [HF.out]; exact OwnG.nil _ _ _ _ _ _, by rw [HF.out]; exact OwnG.nil _ _ _ _ _ _, by rw [HF.out]⟩
  ·rintro lab a w' ⟨rfl, hk, vl, vs, q, u5, u6, u8, u9, u10, u11, u12, u13, u14, u15, u16, u17, u18, u19, u20, u21, u22, u23, u24, u25, u26, u27, u28, u29, u30, u31, u32, u33, u34, u35, u36, u37, u38, u39, u40, u41, u42, u43, u44, ha, h3, h4, h5⟩
   refine ⟨_, rfl, ?_⟩
   subst ha
   have H3 := Lib.hid h3
   have H4 := Lib.hid h4
   have H5 := Lib.hid h5
   have HK := Lib.hid hk
   clear h3 h4 h5 hk c0
   go_wp2
   simp only [exitJumps]
   go_ret3
   exact ⟨vl, vs, by rw [H5.out]; rfl, H3.out, H4.out, HK.out⟩
end Go.Proofs.YtnmjcpoobabjgaaGreatDoor
/- A teller; a part's text; all texts. -/
namespace Go.Proofs.YtnmjcpoobabjgaaGreatDoor
set_option maxRecDepth 100000
open Go.RowKit
theorem TS9.start {l : List Pt} {v : Value} {w : World} (hv : RowP w v l) : TS9 w (((w.alloc (.cells #[v] 22)).alloc (.map #[] 0)).alloc (.cells #[.map (some (w.heap.size + 1))] 142)) w.heap.size (w.heap.size + 1 + 1) (w.heap.size + 1) v l := by
  have z1 : (w.alloc (.cells #[v] 22)).heap.size = w.heap.size + 1 := by simp
  have z2 : ((w.alloc (.cells #[v] 22)).alloc (.map #[] 0)).heap.size = w.heap.size + 1 + 1 := by simp
  refine ⟨hv, (((Below.refl _ _).alloc (Nat.le_refl _) _).alloc (by omega) _).alloc (by omega) _, Nat.le_refl _, by omega, by omega, ?_, ?_, ?_⟩
  · rw [Below.heap_alloc _ _ _ (by omega), Below.heap_alloc _ _ _ (by omega)]
    exact heap_alloc_new _ _
  · have := heap_alloc_new ((w.alloc (.cells #[v] 22)).alloc (.map #[] 0)) (.cells #[.map (some (w.heap.size + 1))] 142)
    rw [z2] at this
    exact this
  · have := Fm.made (w.alloc (.cells #[v] 22)) l
    rw [z1] at this
    exact this.at_ (Below.heap_alloc _ _ _ (by omega))
theorem teller_any {l : List Pt} {v : Value} {w : World} (hv : RowP w v l) : Calls Tryz.prog 67 #[v] w fun e w' => ∃ pl pf m, e = .returned (.func (.func 85) #[] #[.pointer (some ⟨pl, 0, none⟩), .pointer (some ⟨pf, 0, none⟩)]) ∧ TS9 w w' pl pf m v l := by
  have hmf : ∀ (fn : Fn) (first cap : Array Value) (w : World), (Instr.makeFunc fn first cap).run Tryz.prog w = .ok (.func fn first cap) w := fun _ _ _ _ => rfl
  have hmm := @run_makeMap Tryz.prog
  obtain ⟨ad, cap, rfl⟩ := RowG.len hv
  have HV := Lib.hid (TS9.start hv)
  clear hv
  go_enter Tryz.func67, Tryz.ntmps67
  go_wp2
  go_ret
  exact ⟨_, _, _, rfl, HV.out⟩
theorem text_any9 {l : List Pt} {v : Value} (at_ : Int) {w : World} (hv : RowP w v l) (hs : l.length ≤ 100000) (ht : ∀ x ∈ l, x.t.length ≤ 1000000) :
    Calls Tryz.prog 43 #[v, .int .i64 at_] w fun e w' => e = .returned (.tuple #[.string (bs (textR l at_).1), .int .i64 (textR l at_).2]) ∧ Below w.heap.size w w' := by
  have C1 : Hid (∀ W, RowP W v l → _) := Lib.hid (fun W h => teller_any (w := W) h)
  have C2 : Hid (∀ W pl pf m, TS9 w W pl pf m v l → Calls Tryz.prog 85 #[.int .i64 at_, .pointer (some ⟨pl, 0, none⟩), .pointer (some ⟨pf, 0, none⟩)] W fun e w' => e = .returned (.tuple #[.string (bs (textR l at_).1), .int .i64 (textR l at_).2]) ∧ TS9 w w' pl pf m v l ∧ Keep (fun j => j ≠ m) W w') := fun W pl pf m h => told_any at_ h hs ht
  have HV := Lib.hid hv
  generalize bs (textR l at_).1 = sr at *
  generalize (textR l at_).2 = er at *
  clear hv ht
  go_enter Tryz.func43, Tryz.ntmps43
  go_wp2_with fail
  refine (C1.out _ HV.out).mono ?_
  rintro e w1 ⟨pl, pf, m, rfl, T1⟩
  have H1 := Lib.hid T1
  clear T1 C1
  go_wp2_with fail
  refine (C2.out _ _ _ _ H1.out).mono ?_
  rintro e w2 ⟨rfl, T2, K2⟩
  have L2 : Hid (Below w.heap.size w w2) := T2.all
  clear T2 K2 H1 C2 HV
  go_wp2
  go_ret2
  exact ⟨rfl, L2.out⟩
/- where All's loop stands -/
structure AS (w0 w1 : World) (pl pf m : Nat) (v : Value) (l : List Pt) (u : Value) (L : List (List UInt8)) (wr : World) : Prop where
  ts : TS9 w0 wr pl pf m v l
  own : OwnS wr w1.heap.size u L
  ge : w1.heap.size ≤ wr.heap.size
theorem TS9.belowN {w0 w w' : World} {pl pf m : Nat} {v : Value} {l : List Pt} {n : Nat} (h : TS9 w0 w pl pf m v l) (hb : Below n w w') (h0 : w0.heap.size ≤ n) (h1 : pl < n) (h2 : pf < n) (h3 : m < n) : TS9 w0 w' pl pf m v l :=
  ⟨h.row, h.all.trans (hb.mono h0), h.il, h.if_, h.im, by rw [hb.block pl h1]; exact h.bl, by rw [hb.block pf h2]; exact h.bf, h.fm.at_ (hb.block m h3)⟩
theorem AS.told {w0 w1 : World} {pl pf m : Nat} {v : Value} {l : List Pt} {u : Value} {L : List (List UInt8)} {wr w' : World} (h : AS w0 w1 pl pf m v l u L wr) (h1 : TS9 w0 w1 pl pf m v l) (ht : TS9 w0 w' pl pf m v l) (hk : Keep (fun j => j ≠ m) wr w') : AS w0 w1 pl pf m v l u L w' :=
  ⟨ht, h.own.keep hk (fun g hg => by have := h1.fm.lt; show g ≠ m; omega), Nat.le_trans h.ge hk.size⟩
theorem AS.app {w0 w1 : World} {pl pf m : Nat} {v : Value} {l : List Pt} {u u' : Value} {L L' : List (List UInt8)} {wr w' : World} (h : AS w0 w1 pl pf m v l u L wr) (h1 : TS9 w0 w1 pl pf m v l) (ho : OwnS w' w1.heap.size u' L') (hb : Below w1.heap.size wr w') : AS w0 w1 pl pf m v l u' L' w' :=
  ⟨h.ts.belowN hb h1.all.size (lt_of_block h1.bl) (lt_of_block h1.bf) h1.fm.lt, ho, Nat.le_trans h.ge hb.size⟩
theorem allR_len {f : Nat → List UInt8 × Int} {n : Nat} : (allR f n).1.length ≤ n := by
  induction n with
  | zero => simp [allR]
  | succ n ih =>
    unfold allR
    split
    · split
      · simp; omega
      · simp
    · simp
set_option maxHeartbeats 2000000 in
theorem all_any9 {l : List Pt} {v : Value} {w : World} (hv : RowP w v l) (hs : l.length ≤ 10000) (ht : ∀ x ∈ l, x.t.length ≤ 1000000) :
    Calls Tryz.prog 46 #[v] w fun e w' => ∃ u, e = .returned (.tuple #[u, .int .i64 (allT l).2]) ∧ OwnS w' w.heap.size u (allT l).1 ∧ Below w.heap.size w w' := by
  have C1 : Hid (∀ W, RowP W v l → _) := Lib.hid (fun W h => teller_any (w := W) h)
  obtain ⟨f, hf⟩ : ∃ f : Nat → List UInt8 × Int, f = fun (i : Nat) => textR l (i : Int) := ⟨_, rfl⟩
  have C2 : Hid (∀ W pl pf m (k : Nat), TS9 w W pl pf m v l → Calls Tryz.prog 85 #[.int .i64 (k : Int), .pointer (some ⟨pl, 0, none⟩), .pointer (some ⟨pf, 0, none⟩)] W fun e w' => e = .returned (.tuple #[.string (bs (f k).1), .int .i64 (f k).2]) ∧ TS9 w w' pl pf m v l ∧ Keep (fun j => j ≠ m) W w') := fun W pl pf m k h => by
    rw [hf]
    exact told_any k h (by omega) ht
  obtain ⟨n, hn⟩ : ∃ n, n = l.length := ⟨_, rfl⟩
  have hA : allT l = allR f n := by unfold allT; rw [hf, hn]
  rw [hA]
  obtain ⟨R, hR⟩ : ∃ R, R = allR f n := ⟨_, rfl⟩
  rw [← hR]
  have HR := Lib.hid hR
  have HV := Lib.hid hv
  obtain ⟨ad, cap, hvs⟩ := RowG.len hv
  rw [← hn] at hvs
  subst hvs
  have n4 : n ≤ 10000 := by omega
  clear hf hn hA hR hv ht hs
  go_enter Tryz.func46, Tryz.ntmps46
  go_wp2_with fail
  refine (C1.out _ HV.out).mono ?_
  rintro e w1 ⟨pl, pf, m, rfl, T1⟩
  have H1 := Lib.hid T1
  have A0 : Hid (AS w w1 pl pf m (.slice ad n cap) l (.slice none 0 0) [] w1) := ⟨T1, OwnG.nil _ _ _ _ _ _, Nat.le_refl _⟩
  clear T1 C1
  go_wp2
  go_loopw [13, 5] (fun i a wr => ∃ (k : Nat) (u : Value), u = a ∧ k ≤ n ∧ i = .int .i64 (k : Int) ∧ Hid ((allR f k).2 = 0) ∧ Hid (AS w w1 pl pf m (.slice ad n cap) l u (allR f k).1 wr)) (fun i _ _ => n - (intOf i).toNat)
  case atStart => exact ⟨0, _, rfl, Nat.zero_le _, rfl, rfl, A0⟩
  case round =>
    obtain ⟨k, u, rfl, hk, rfl, hE, hS⟩ := hrel
    clear A0
    by_cases hlt : k < n
    · have yk : (k : Int) < (n : Int) := by omega
      have w5 : IntKind.i64.wrap ((k : Int) + 1) = (k : Int) + 1 := IntWalk.i64_in _ (by omega)
      have C3 := Lib.hid (fun W h => C2.out W pl pf m k h)
      obtain ⟨x, er, hx⟩ : ∃ x er, f k = (x, er) := ⟨_, _, rfl⟩
      rw [hx] at C3
      dsimp only at C3
      have hlen := allR_len (f := f) (n := k)
      by_cases ce : er = 0
      · subst ce
        have HX : Hid (allR f (k + 1) = ((allR f k).1 ++ [x], 0)) := by show _ = _; rw [allR, if_pos hE.out, if_pos (by rw [hx]), hx]
        obtain ⟨L, hL⟩ : ∃ L, L = (allR f k).1 := ⟨_, rfl⟩
        rw [← hL] at hS HX hlen
        obtain ⟨sx, hsx⟩ : ∃ sx, sx = bs x := ⟨_, rfl⟩
        have AP : Hid (∀ W, OwnS W w1.heap.size u L → w1.heap.size ≤ W.heap.size → _) := Lib.hid (fun W h1 h2 => app_s (B := w1.heap.size) (w := W) x h1 h2 (by omega))
        rw [← hsx] at C3 AP
        obtain ⟨ln, hln⟩ : ∃ ln, ln = L.length := ⟨_, rfl⟩
        rw [← hln] at AP
        clear hsx hx C2 HR HV hlen hL hln
        go_wp2_with fail
        refine (C3.out _ hS.out.ts).mono ?_
        rintro e w2 ⟨rfl, T2, K2⟩
        have S2 := Lib.hid (hS.out.told H1.out T2 K2)
        obtain ⟨g, gc, w3, hr, O3, B3⟩ := AP.out w2 S2.out.own S2.out.ge
        have S3 := Lib.hid (S2.out.app H1.out O3 B3)
        obtain ⟨au, nu, cu, hus⟩ : ∃ au nu cu, u = .slice au nu cu := by
          obtain ⟨x1, x2, x3⟩ := RowG.len S2.out.own.row
          exact ⟨_, _, _, x3⟩
        subst hus
        clear T2 K2 S2 O3 B3 AP C3 hS
        go_wp2_with (at_builtin; refine wpList_append_run rfl (.tmp 25) (.tmp 27) 71 71 rfl _ _ _ _ rfl rfl hr ?_)
        clear hr
        go_wp2
        go_roundw
        case rel => exact ⟨k + 1, _, rfl, by omega, by go_num, by rw [HX.out]; rfl, by rw [HX.out]; exact S3.out⟩
        case measure => simp [intOf]; omega
      · have HX : Hid (R = ([], er)) := by show _ = _; rw [HR.out, allR_first hlt hE.out (by rw [hx]; exact ce), hx]
        clear hx C2 HR HV hlen
        go_wp2_with fail
        refine (C3.out _ hS.out.ts).mono ?_
        rintro e w2 ⟨rfl, T2, K2⟩
        have L2 : Hid (Below w.heap.size w w2) := T2.all
        clear T2 K2 hS C3
        go_wp2
        go_ret2
        exact ⟨.slice none 0 0, by rw [HX.out]; rfl, by rw [HX.out]; exact OwnG.nil _ _ _ _ _ _, L2.out⟩
    · have e : k = n := by omega
      subst e
      have HRE : Hid (R.2 = 0 ∧ R.1 = (allR f k).1) := by rw [HR.out]; exact ⟨hE.out, rfl⟩
      have HB := Lib.hid H1.out.all.size
      have HO := Lib.hid (hS.out.own.mono HB.out)
      have HL := Lib.hid hS.out.ts.all
      clear hS C2 HV
      go_wp2
      go_ret2
      exact ⟨u, by rw [HRE.out.1]; rfl, by rw [HRE.out.2]; exact HO.out, HL.out⟩
end Go.Proofs.YtnmjcpoobabjgaaGreatDoor
/- A pack of parts, plainly; the room in which one is made. -/
namespace Go.Proofs.YtnmjcpoobabjgaaGreatDoor
set_option maxRecDepth 100000
open Go.RowKit Classical
theorem isFrame_one {f : List UInt8} {k k' : Int} {l l' : List UInt8} (h : IsFrame f k l) (h' : IsFrame f k' l') : k = k' ∧ l = l' := by
  obtain ⟨s, p, e1, h1⟩ : ∃ s p e1, rRaw 1 f 0 0 = (s, p, e1) := ⟨_, _, _, rfl⟩
  obtain ⟨b, p2, e2, h2⟩ : ∃ b p2 e2, rText 4096 f p e1 = (b, p2, e2) := ⟨_, _, _, rfl⟩
  obtain ⟨-, a1, a2⟩ := (read_frame h1 h2).2 k l h
  obtain ⟨-, b1, b2⟩ := (read_frame h1 h2).2 k' l' h'
  exact ⟨a1.symm.trans b1, a2.symm.trans b2⟩
/- the object of a frame -/
noncomputable def frameOf (f : List UInt8) : Option (Int × List UInt8) := if h : ∃ o : Int × List UInt8, IsFrame f o.1 o.2 then some h.choose else none
theorem frameOf_some {f : List UInt8} {o : Int × List UInt8} : frameOf f = some o ↔ IsFrame f o.1 o.2 := by
  unfold frameOf
  constructor
  · intro h
    split at h
    · rename_i c
      simp only [Option.some.injEq] at h
      rw [← h]; exact c.choose_spec
    · cases h
  · intro h
    have c : ∃ o : Int × List UInt8, IsFrame f o.1 o.2 := ⟨o, h⟩
    rw [dif_pos c]
    obtain ⟨e1, e2⟩ := isFrame_one c.choose_spec h
    exact congrArg some (Prod.ext e1 e2)
theorem frameOf_none {f : List UInt8} : frameOf f = none ↔ ¬ isFrame f := by
  constructor
  · rintro h ⟨k, l, hf⟩
    rw [(frameOf_some (o := (k, l))).2 hf] at h
    cases h
  · intro h
    cases hf : frameOf f with
    | none => rfl
    | some o => exact absurd ⟨o.1, o.2, frameOf_some.1 hf⟩ h
def rdv (o : Option (Int × List UInt8)) : Value := match o with | some x => .tuple #[.agg #[.int .i64 x.1, .string (bs x.2)], .int .i64 0] | none => .tuple #[.agg #[.int .i64 0, .string ⟨#[]⟩], .int .i64 2]
theorem oread2_any (f : List UInt8) (w : World) (hf : f.length ≤ 281474976710656) : Calls Tryz.prog 44 #[.string (bs f)] w fun e w' => e = .returned (rdv (frameOf f)) ∧ Below w.heap.size w w' :=
  (oread_any f w hf).mono fun e w' h => ⟨by
    cases hh : frameOf f with
    | none => exact h.2.1 (frameOf_none.1 hh)
    | some o => exact h.1 o.1 o.2 (frameOf_some.1 hh), h.2.2⟩
/- the objects of texts, all ids unlike -/
noncomputable def pk : List (List UInt8) → List (Int × List UInt8) → Option (List (Int × List UInt8))
  | [], os => some os
  | t :: r, os => match frameOf t with
    | none => none
    | some o => if idx (oid o) (os.map oid) 0 = none then pk r (os ++ [o]) else none
noncomputable def packR (l : List Pt) : Option (List (Int × List UInt8)) := if (allT l).2 = 0 then pk (allT l).1 [] else none
theorem pk_bad {t : List UInt8} {r : List (List UInt8)} {os : List (Int × List UInt8)} (h : frameOf t = none) : pk (t :: r) os = none := by rw [pk, h]
theorem pk_twice {t : List UInt8} {r : List (List UInt8)} {os : List (Int × List UInt8)} {o : Int × List UInt8} (h : frameOf t = some o) (h2 : idx (oid o) (os.map oid) 0 ≠ none) : pk (t :: r) os = none := by rw [pk, h]; dsimp only; rw [if_neg h2]
theorem pk_more {t : List UInt8} {r : List (List UInt8)} {os : List (Int × List UInt8)} {o : Int × List UInt8} (h : frameOf t = some o) (h2 : idx (oid o) (os.map oid) 0 = none) : pk (t :: r) os = pk r (os ++ [o]) := by rw [pk, h]; dsimp only; rw [if_pos h2]
theorem fnd_neg {f : Nat → UInt8} {L : List (Nat → UInt8)} : fnd f L < 0 ↔ idx f L 0 = none := by
  unfold fnd
  cases idx f L 0 with
  | none => simp
  | some j => simp
/- the room in which a pack is made: w1 is the world ahead of it -/
structure PL (w1 : World) (vp vs : Value) (l1 : List (Int × List UInt8)) (l2 l3 : List (Nat → UInt8)) (vo vd : Value) (W : World) : Prop where
  kp : Below w1.heap.size w1 W
  bl : W.heap[w1.heap.size + 1]? = some (.cells #[vp, vs, vo, vd, .map (some w1.heap.size)] 86 (0, 0))
  oo : OwnO W (w1.heap.size + 2) vo l1
  od : OwnD W (w1.heap.size + 2) vd l2
  sp : Sep vo vd
  mp : IdMap W w1.heap.size l3
theorem PL.lt {w1 : World} {vp vs : Value} {l1 : List (Int × List UInt8)} {l2 l3 : List (Nat → UInt8)} {vo vd : Value} {W : World} (h : PL w1 vp vs l1 l2 l3 vo vd W) : w1.heap.size + 1 < W.heap.size := lt_of_block h.bl
theorem PL.below {w1 : World} {vp vs : Value} {l1 : List (Int × List UInt8)} {l2 l3 : List (Nat → UInt8)} {vo vd : Value} {W W' : World} (h : PL w1 vp vs l1 l2 l3 vo vd W) (hb : Below W.heap.size W W') : PL w1 vp vs l1 l2 l3 vo vd W' :=
  ⟨h.kp.trans (hb.mono h.kp.size), by rw [hb.block _ h.lt]; exact h.bl, h.oo.all hb, h.od.all hb, h.sp, h.mp.at_ (hb.block _ (by have := h.lt; omega))⟩
theorem PL.start (w1 : World) (vp : Value) : PL w1 vp (.slice none 0 0) [] [] [] (.slice none 0 0) (.slice none 0 0) ((w1.alloc (.map #[] 0)).alloc (.cells #[vp, .slice none 0 0, .slice none 0 0, .slice none 0 0, .map (some w1.heap.size)] 86)) := by
  refine ⟨((Below.refl _ _).alloc (Nat.le_refl _) _).alloc (by simp) _, ?_, OwnG.nil _ _ _ _ _ _, OwnG.nil _ _ _ _ _ _, fun g hg => (by cases hg), (IdMap.made w1).at_ ?_⟩
  · have := heap_alloc_new (w1.alloc (.map #[] 0)) (.cells #[vp, .slice none 0 0, .slice none 0 0, .slice none 0 0, .map (some w1.heap.size)] 86)
    rwa [World.size_alloc] at this
  · exact ((Below.refl (w1.alloc (.map #[] 0)).heap.size (w1.alloc (.map #[] 0))).alloc (Nat.le_refl _) _).block _ (by simp)
theorem app_gk {α β : Type} {t e m bytes : Nat} {z : Value} {g : α → Nat → Value} {d : α} (ht : Tryz.prog.underlying t = some (.slice e)) (hi : (Tryz.prog.info? e).map (fun i => (i.zero, i.size, i.bytes)) = some (some z, m, bytes)) (hzs : z.cells.size = m) (hm : 0 < m) (hby : bytes ≤ 64) (h1 : ∀ x j, (g x j).oneCell' = true)
    {e2 m2 : Nat} {g2 : β → Nat → Value} {d2 : β} {B : Nat} {w : World} {v u : Value} {l : List α} {l2 : List β} (x : α) (A : Array Value) (hA : A = arr m (g x)) (h : OwnG e m g d w B v l) (h2 : OwnG e2 m2 g2 d2 w B u l2) (hs : Sep v u) (hB : B ≤ w.heap.size) (hn : l.length + 1 ≤ 100000) :
    ∃ b cap w', (Builtin.append_ #[t, t] t #[v, .slice (some ⟨w.heap.size, 0, none⟩) 1 1]).run Tryz.prog (w.alloc (.cells A e)) = .ok (.slice (some ⟨b, 0, none⟩) (l.length + 1) cap) w' ∧
      OwnG e m g d w' B (.slice (some ⟨b, 0, none⟩) (l.length + 1) cap) (l ++ [x]) ∧ OwnG e2 m2 g2 d2 w' B u l2 ∧ Sep (.slice (some ⟨b, 0, none⟩) (l.length + 1) cap) u ∧ Below B w w' ∧ Keep (fun k => v.ownBlock ≠ some k) w w' := by
  have hh : w.ownsRow B e m v l.length (arr (l.length * m) (cf m g d (l ++ [x]))).toList := by
    have e : arr (l.length * m) (cf m g d l) = arr (l.length * m) (cf m g d (l ++ [x])) := arr_congr fun i hi => (cf_snoc g d l x i hm hi).symm
    rw [← e]
    exact h
  obtain ⟨b, cap, w', hr, ho, hk, hat⟩ := app_own ht hi hzs hm hby A (hA.trans (cf_last g d l x)) (fun j => h1 _ _) hh hB hn
  refine ⟨b, cap, w', hr, ?_, owns_keep h2 hk fun k hk1 hk2 => hs k hk2 hk1, fun k hk1 hk2 => ?_, ⟨hk.os, hk.tape, hk.output, hk.size, fun k hkB => hk.block k (fun e => ?_) (by omega)⟩, hk⟩
  · unfold OwnG
    rw [List.length_append, List.length_singleton]
    exact ho
  · obtain rfl : b = k := by simpa [Value.ownBlock] using hk1
    rcases hat with hat | hat
    · exact hs b hat hk2
    · have := own_lt h2 hk2
      omega
  · have := own_lt h e
    omega
/- an own row's block stands apart from the room's first two -/
theorem OwnG.setCell {α : Type} {e m : Nat} {g : α → Nat → Value} {d : α} {w : World} {B : Nat} {v : Value} {l : List α} (h : OwnG e m g d w B v l) {p : Addr} (hp : p.block < B) (u : Value) : OwnG e m g d (w.setCell p u) B v l :=
  h.keep (K := fun k => k ≠ p.block) ((Keep.refl _ w).setCell (fun h => h rfl) u) (fun g hg => by show g ≠ p.block; omega)
theorem IdMap.setCell {w : World} {m : Nat} {L : List (Nat → UInt8)} (h : IdMap w m L) {p : Addr} (hp : p.block ≠ m) (u : Value) : IdMap (w.setCell p u) m L := h.at_ (heap_setCell_other w p m u (fun e => hp e.symm))
theorem PL.obj {w1 : World} {vp vs : Value} {l1 : List (Int × List UInt8)} {l2 l3 : List (Nat → UInt8)} {vo vd : Value} {W : World} (h : PL w1 vp vs l1 l2 l3 vo vd W) (x : Int × List UInt8) (hn : l1.length + 1 ≤ 100000) :
    ∃ b cap W6, (Builtin.append_ #[29, 29] 29 #[vo, .slice (some ⟨W.heap.size, 0, none⟩) 1 1]).run Tryz.prog (W.alloc (.cells #[.int .i64 x.1, .string (bs x.2)] 43)) = .ok (.slice (some ⟨b, 0, none⟩) (l1.length + 1) cap) W6 ∧
      PL w1 vp vs (l1 ++ [x]) l2 l3 (.slice (some ⟨b, 0, none⟩) (l1.length + 1) cap) vd (W6.setCell ⟨w1.heap.size + 1, 2, none⟩ (.slice (some ⟨b, 0, none⟩) (l1.length + 1) cap)) ∧
      W6.cell? ⟨w1.heap.size + 1, 2, none⟩ = some vo ∧ W6.frozen? ⟨w1.heap.size + 1, 2, none⟩ = false ∧ Keep (fun k => vo.ownBlock ≠ some k) W W6 := by
  obtain ⟨b, cap, W6, hr, o6, d6, s6, B6, K6⟩ := app_gk (u := vd) tOs iOs rfl (by decide) (by decide) gO_one x _ rfl h.oo h.od h.sp h.lt hn
  have hb : W6.heap[w1.heap.size + 1]? = some (.cells #[vp, vs, vo, vd, .map (some w1.heap.size)] 86 (0, 0)) := by rw [B6.block _ (by omega)]; exact h.bl
  refine ⟨b, cap, W6, hr, ⟨?_, ?_, o6.setCell (by show w1.heap.size + 1 < _; omega) _, d6.setCell (by show w1.heap.size + 1 < _; omega) _, s6, ?_⟩, cell_of_row _ _ 2 _ _ _ hb, frozen_of_row _ _ 2 _ _ hb, K6⟩
  · exact (h.kp.trans (B6.mono (by omega))).setCell (by show w1.heap.size ≤ w1.heap.size + 1; omega) _
  · rw [heap_setCell_same _ _ 2 _ _ _ hb]; rfl
  · exact (h.mp.at_ (B6.block _ (by omega))).setCell (by show w1.heap.size + 1 ≠ _; omega) _
theorem PL.idd {w1 : World} {vp vs : Value} {l1 : List (Int × List UInt8)} {l2 l3 : List (Nat → UInt8)} {vo vd : Value} {W : World} (h : PL w1 vp vs l1 l2 l3 vo vd W) (x : Nat → UInt8) (hn : l2.length + 1 ≤ 100000) :
    ∃ b cap W6, (Builtin.append_ #[30, 30] 30 #[vd, .slice (some ⟨W.heap.size, 0, none⟩) 1 1]).run Tryz.prog (W.alloc (.cells (arr 32 (bv x)) 37)) = .ok (.slice (some ⟨b, 0, none⟩) (l2.length + 1) cap) W6 ∧
      PL w1 vp vs l1 (l2 ++ [x]) l3 vo (.slice (some ⟨b, 0, none⟩) (l2.length + 1) cap) (W6.setCell ⟨w1.heap.size + 1, 3, none⟩ (.slice (some ⟨b, 0, none⟩) (l2.length + 1) cap)) ∧
      W6.cell? ⟨w1.heap.size + 1, 3, none⟩ = some vd ∧ W6.frozen? ⟨w1.heap.size + 1, 3, none⟩ = false ∧ Keep (fun k => vd.ownBlock ≠ some k) W W6 := by
  obtain ⟨b, cap, W6, hr, d6, o6, s6, B6, K6⟩ := app_gk (u := vo) tIds iId (by decide +kernel) (by decide) (by decide) (fun _ _ => rfl) x _ rfl h.od h.oo h.sp.symm h.lt hn
  have hb : W6.heap[w1.heap.size + 1]? = some (.cells #[vp, vs, vo, vd, .map (some w1.heap.size)] 86 (0, 0)) := by rw [B6.block _ (by omega)]; exact h.bl
  refine ⟨b, cap, W6, hr, ⟨?_, ?_, o6.setCell (by show w1.heap.size + 1 < _; omega) _, d6.setCell (by show w1.heap.size + 1 < _; omega) _, s6.symm, ?_⟩, cell_of_row _ _ 3 _ _ _ hb, frozen_of_row _ _ 3 _ _ hb, K6⟩
  · exact (h.kp.trans (B6.mono (by omega))).setCell (by show w1.heap.size ≤ w1.heap.size + 1; omega) _
  · rw [heap_setCell_same _ _ 3 _ _ _ hb]; rfl
  · exact (h.mp.at_ (B6.block _ (by omega))).setCell (by show w1.heap.size + 1 ≠ _; omega) _
theorem PL.put {w1 : World} {vp vs : Value} {l1 : List (Int × List UInt8)} {l2 l3 : List (Nat → UInt8)} {vo vd : Value} {W : World} (h : PL w1 vp vs l1 l2 l3 vo vd W) (f : Nat → UInt8) (hn : idx f l3 0 = none) :
    ∃ W', (Instr.mapUpdate 84 (.map (some w1.heap.size)) (kv f) (.int .i64 (l3.length : Int))).run Tryz.prog W = .ok () W' ∧ PL w1 vp vs l1 l2 (l3 ++ [f]) vo vd W' ∧ Keep (fun j => j ≠ w1.heap.size) W W' := by
  obtain ⟨W', hr, hm, hk⟩ := h.mp.put f hn
  refine ⟨W', hr, ⟨⟨hk.os.trans h.kp.os, hk.tape.trans h.kp.tape, hk.output.trans h.kp.output, Nat.le_trans h.kp.size hk.size, fun k hkB => (hk.block k (by show k ≠ _; omega) (Nat.lt_of_lt_of_le hkB h.kp.size)).trans (h.kp.block k hkB)⟩, hk.at (by show w1.heap.size + 1 ≠ _; omega) h.bl, h.oo.keep hk (fun g hg => by show g ≠ _; omega), h.od.keep hk (fun g hg => by show g ≠ _; omega), h.sp, hm⟩, hk⟩
theorem PL.pack {w1 : World} {vp vs : Value} {l : List Pt} {S : List Nat} {os : List (Int × List UInt8)} {vo vd : Value} {W : World} (h : PL w1 vp vs os (os.map oid) (os.map oid) vo vd W) (hp : RowP w1 vp l) (hs : RowN w1 vs S) : PackAt W (w1.heap.size + 1) l S os :=
  ⟨⟨vp, vs, vo, vd, w1.heap.size, h.bl, RowG.below hp h.kp, RowG.below hs h.kp, h.oo.row, h.od.row, h.mp⟩⟩
theorem PL.spot {w1 : World} {vp vs : Value} {l1 : List (Int × List UInt8)} {l2 l3 : List (Nat → UInt8)} {vo vd : Value} {W : World} (h : PL w1 vp vs l1 l2 l3 vo vd W) (vs' : Value) : PL w1 vp vs' l1 l2 l3 vo vd (W.setCell ⟨w1.heap.size + 1, 1, none⟩ vs') :=
  ⟨h.kp.setCell (by show w1.heap.size ≤ w1.heap.size + 1; omega) _, by rw [heap_setCell_same _ _ 1 _ _ _ h.bl]; rfl, h.oo.setCell (by show w1.heap.size + 1 < _; omega) _, h.od.setCell (by show w1.heap.size + 1 < _; omega) _, h.sp, h.mp.setCell (by show w1.heap.size + 1 ≠ _; omega) _⟩
end Go.Proofs.YtnmjcpoobabjgaaGreatDoor
