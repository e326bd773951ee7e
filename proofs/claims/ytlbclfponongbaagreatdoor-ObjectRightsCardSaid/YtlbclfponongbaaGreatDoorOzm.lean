import Derived.Test.YtlbclfponongbaaGreatDoorO21m
import Derived.Test.YtlbclfponongbaaGreatDoorY1m
import Derived.Test.YtlbclfponongbaaGreatDoorY4m
import Derived.Test.YtlbclfponongbaaGreatDoorO29m
/- The same lists of children? -/
namespace Go.Proofs.YtlbclfponongbaaGreatDoor
open Go.RowKit Classical
theorem At.kid {w : World} {b o n : Nat} {H : Nat → (Nat → UInt8) × Int} (h : At w b o (n * 33) (hc H)) (k : Nat) (hk : k < n) : At w b (o + k * 33) 33 (hv (H k).1 (H k).2) :=
  h.part (k * 33) 33 _ (by omega) fun j hj => hc_at H k j hj
set_option maxHeartbeats 2000000 in
set_option maxRecDepth 100000 in
theorem samekids_any_aux (xs ys : Nat → ((Nat → UInt8) × Int)) (n k : Nat) (u v : Value) (w : World) (r : Bool) (hT : Hid ((n = k ∧ ∀ i, i < n → (same32 (xs i).1 (ys i).1 ∧ (xs i).2 = (ys i).2)) → r = true)) (hF : Hid (¬ (n = k ∧ ∀ i, i < n → (same32 (xs i).1 (ys i).1 ∧ (xs i).2 = (ys i).2)) → r = false)) (hX : Row w u 33 (hc xs) n) (hY : Row w v 33 (hc ys) k) (hn : n ≤ 9223372036854775807) (hk : k ≤ 9223372036854775807) :
    Calls Tryz.prog 15 #[u, v] w fun e w' => e = .returned (.bool r) ∧ Below w.heap.size w w' := by
  obtain ⟨ad, cap, rfl, ha⟩ := row_addr hX
  obtain ⟨ad2, cap2, rfl, ha2⟩ := row_addr hY
  have HA := Lib.hid ha
  have HA2 := Lib.hid ha2
  clear ha ha2 hX hY
  by_cases hnk : n = k
  · subst hnk
    have t1 : ((n : Int) != (n : Int)) = false := by simp
    go_enter Tryz.func15, Tryz.ntmps15
    go_wp2
    go_loopw [5] (fun i wr => ∃ j : Nat, j ≤ n ∧ i = .int .i64 j ∧ Hid (∀ x, x < j → (same32 (xs x).1 (ys x).1 ∧ (xs x).2 = (ys x).2)) ∧ Hid (Below w.heap.size w wr)) (fun i _ => n - (intOf i).toNat)
    case atStart => exact ⟨0, Nat.zero_le _, rfl, (fun x hx => absurd hx (by omega)), Below.refl _ _⟩
    case round =>
      obtain ⟨j, hj, rfl, hS, hL⟩ := hrel
      by_cases hlt : j < n
      · obtain ⟨b, o, rfl, hb, hc0⟩ := HA.out (by omega)
        obtain ⟨b2, o2, rfl, hb2, hc2⟩ := HA2.out (by omega)
        have S0 : At wr.drew b (o + j * 33) 33 (hv (xs j).1 (xs j).2) ∧ At wr.drew b2 (o2 + j * 33) 33 (hv (ys j).1 (ys j).2) := ⟨((hc0.below hL.out hb).kid j hlt), ((hc2.below hL.out hb2).kid j hlt)⟩
        have zj : (0 : Int) ≤ (j : Int) := by omega
        have yj : (j : Int) < (n : Int) := by omega
        have HLT := Lib.hid hlt
        have q := fun W => neqChild (xs j).1 (ys j).1 (xs j).2 (ys j).2 W
        clear hc0 hc2 hb hb2 hlt
        go_upto_region 6 with fail
        refine wp_region_noPanic ?_
        refine wp_region_held_drew (S := (fun W => At W b (o + j * 33) 33 (hv (xs j).1 (xs j).2) ∧ At W b2 (o2 + j * 33) 33 (hv (ys j).1 (ys j).2))) (by kernel_rfl) S0 (fun hHeld => ?_)
        refine wpAnyH_take (i := 0) (oi := { dst := some 17, op := Op.move (Operand.tmp 0), type := 40, pos := "ref.go:225", after := #[], guard := none }) (v := ?_) rfl (by kernel_rfl) (by kernel_rfl) (by kernel_rfl) (fun _ _ _ h => h) (Or.inl ⟨by kernel_rfl, ?_⟩) (by assumption) ?_
        rotate_left 1
        · (intro wS hSw; (try dsimp only at hSw); go_simp; try with_reducible rfl)
        try simp only [Act.put, List.setIfInBounds_toArray, List.set_cons_zero, List.set_cons_succ]
        refine wpAnyH_take (i := 1) (oi := { dst := some 18, op := Op.move (Operand.tmp 5), type := 3, pos := "ref.go:225", after := #[], guard := none }) (v := ?_) rfl (by kernel_rfl) (by kernel_rfl) (by kernel_rfl) (fun _ _ _ h => h) (Or.inl ⟨by kernel_rfl, ?_⟩) (by assumption) ?_
        rotate_left 1
        · (intro wS hSw; (try dsimp only at hSw); go_simp; try with_reducible rfl)
        try simp only [Act.put, List.setIfInBounds_toArray, List.set_cons_zero, List.set_cons_succ]
        refine wpAnyH_take (i := 2) (oi := { dst := some 19, op := Op.indexAddr 40 (Operand.tmp 17) (Operand.tmp 18), type := 0, pos := "ref.go:225", after := #[{ on := 0, ground := Ground.data }, { on := 1, ground := Ground.data }], guard := none }) (v := ?_) rfl (by kernel_rfl) (by kernel_rfl) (by kernel_rfl) (fun _ _ _ h => h) (Or.inl ⟨by kernel_rfl, ?_⟩) (by assumption) ?_
        rotate_left 1
        · (intro wS hSw; (try dsimp only at hSw); go_simp; try with_reducible rfl)
        try simp only [Act.put, List.setIfInBounds_toArray, List.set_cons_zero, List.set_cons_succ]
        refine wpAnyH_take (i := 3) (oi := { dst := some 20, op := Op.load 58 (Operand.tmp 19), type := 58, pos := "ref.go:225", after := #[{ on := 2, ground := Ground.data }], guard := none }) rfl (by kernel_rfl) (by kernel_rfl) (by kernel_rfl) (fun _ _ _ h => h) (Or.inl ⟨by kernel_rfl, fun wS hSw => ex_load 58 (.tmp 19) rfl b (o + j * 33) 33 (hv (xs j).1 (xs j).2) rfl Tryz.underlying58 rfl szChild hSw.1⟩) (by assumption) ?_
        try simp only [Act.put, List.setIfInBounds_toArray, List.set_cons_zero, List.set_cons_succ]
        refine wpAnyH_take (i := 4) (oi := { dst := some 21, op := Op.move (Operand.tmp 1), type := 40, pos := "ref.go:225", after := #[], guard := none }) (v := ?_) rfl (by kernel_rfl) (by kernel_rfl) (by kernel_rfl) (fun _ _ _ h => h) (Or.inl ⟨by kernel_rfl, ?_⟩) (by assumption) ?_
        rotate_left 1
        · (intro wS hSw; (try dsimp only at hSw); go_simp; try with_reducible rfl)
        try simp only [Act.put, List.setIfInBounds_toArray, List.set_cons_zero, List.set_cons_succ]
        refine wpAnyH_take (i := 5) (oi := { dst := some 22, op := Op.move (Operand.tmp 5), type := 3, pos := "ref.go:225", after := #[], guard := none }) (v := ?_) rfl (by kernel_rfl) (by kernel_rfl) (by kernel_rfl) (fun _ _ _ h => h) (Or.inl ⟨by kernel_rfl, ?_⟩) (by assumption) ?_
        rotate_left 1
        · (intro wS hSw; (try dsimp only at hSw); go_simp; try with_reducible rfl)
        try simp only [Act.put, List.setIfInBounds_toArray, List.set_cons_zero, List.set_cons_succ]
        refine wpAnyH_take (i := 6) (oi := { dst := some 23, op := Op.indexAddr 40 (Operand.tmp 21) (Operand.tmp 22), type := 0, pos := "ref.go:225", after := #[{ on := 4, ground := Ground.data }, { on := 5, ground := Ground.data }], guard := none }) (v := ?_) rfl (by kernel_rfl) (by kernel_rfl) (by kernel_rfl) (fun _ _ _ h => h) (Or.inl ⟨by kernel_rfl, ?_⟩) (by assumption) ?_
        rotate_left 1
        · (intro wS hSw; (try dsimp only at hSw); go_simp; try with_reducible rfl)
        try simp only [Act.put, List.setIfInBounds_toArray, List.set_cons_zero, List.set_cons_succ]
        refine wpAnyH_take (i := 7) (oi := { dst := some 24, op := Op.load 58 (Operand.tmp 23), type := 58, pos := "ref.go:225", after := #[{ on := 6, ground := Ground.data }], guard := none }) rfl (by kernel_rfl) (by kernel_rfl) (by kernel_rfl) (fun _ _ _ h => h) (Or.inl ⟨by kernel_rfl, fun wS hSw => ex_load 58 (.tmp 23) rfl b2 (o2 + j * 33) 33 (hv (ys j).1 (ys j).2) rfl Tryz.underlying58 rfl szChild hSw.2⟩) (by assumption) ?_
        try simp only [Act.put, List.setIfInBounds_toArray, List.set_cons_zero, List.set_cons_succ]
        refine wpAnyH_take (i := 8) (oi := { dst := some 25, op := Op.binOp BinOp.neq 58 (Operand.tmp 20) (Operand.tmp 24) 58, type := 4, pos := "ref.go:225", after := #[{ on := 3, ground := Ground.data }, { on := 7, ground := Ground.data }], guard := none }) (v := ?_) rfl (by kernel_rfl) (by kernel_rfl) (by kernel_rfl) (fun _ _ _ h => h) (Or.inl ⟨by kernel_rfl, ?_⟩) (by assumption) ?_
        rotate_left 1
        · (intro wS hSw; (try dsimp only at hSw); go_simp; try with_reducible rfl)
        try simp only [Act.put, List.setIfInBounds_toArray, List.set_cons_zero, List.set_cons_succ]
        refine wpAnyH_done (by kernel_rfl) ?_ _
        refine NoPanic.normal ?_
        clear hHeld S0 q
        by_cases hs : (same32 (xs j).1 (ys j).1 ∧ (xs j).2 = (ys j).2)
        · rw [show (!decide (same32 (xs j).1 (ys j).1) || !decide ((xs j).2 = (ys j).2)) = false by rw [decide_eq_true hs.1, decide_eq_true hs.2]; rfl]
          have S2 : Hid (∀ x, x < j + 1 → (same32 (xs x).1 (ys x).1 ∧ (xs x).2 = (ys x).2)) := fun x hx => by
            by_cases c : x < j
            · exact hS.out x c
            · rw [show x = j by omega]; exact hs
          have L2 : Hid (Below w.heap.size w wr.drew) := hL.out.drew
          clear hs
          go_wp2
          go_roundw
          case rel => exact ⟨j + 1, HLT.out, by go_num, S2, L2⟩
          case measure => simp [intOf]; have := HLT.out; omega
        · rw [show (!decide (same32 (xs j).1 (ys j).1) || !decide ((xs j).2 = (ys j).2)) = true by
            by_cases h1 : same32 (xs j).1 (ys j).1
            · rw [decide_eq_false (fun h2 => hs ⟨h1, h2⟩)]; simp
            · rw [decide_eq_false h1]; rfl]
          have E := Lib.hid (hF.out fun h => hs (h.2 j HLT.out))
          clear hs
          go_wp2
          go_ret
          rw [E.out]
          exact ⟨rfl, hL.out.drew⟩
      · have ej : j = n := by omega
        subst ej
        have E := Lib.hid (hT.out ⟨by first | trivial | rfl, hS.out⟩)
        have yj : (j : Int) ≤ (j : Int) := by omega
        clear hlt
        go_wp2
        go_ret
        rw [E.out]
        exact ⟨rfl, hL.out⟩
  · have t1 : ((n : Int) != (k : Int)) = true := by simp; omega
    have E := Lib.hid (hF.out fun h => hnk h.1)
    clear hnk
    go_enter Tryz.func15, Tryz.ntmps15
    go_wp2
    go_ret
    rw [E.out]
    exact ⟨rfl, Below.refl _ _⟩
theorem samekids_any (xs ys : Nat → ((Nat → UInt8) × Int)) (n k : Nat) (u v : Value) (w : World) (hX : Row w u 33 (hc xs) n) (hY : Row w v 33 (hc ys) k) (hn : n ≤ 9223372036854775807) (hk : k ≤ 9223372036854775807) :
    Calls Tryz.prog 15 #[u, v] w fun e w' => e = .returned (.bool (decide (n = k ∧ ∀ i, i < n → (same32 (xs i).1 (ys i).1 ∧ (xs i).2 = (ys i).2)))) ∧ Below w.heap.size w w' :=
  samekids_any_aux xs ys n k u v w _ (fun h => decide_eq_true h) (fun h => decide_eq_false h) hX hY hn hk
end Go.Proofs.YtlbclfponongbaaGreatDoor
/- ObjectRights: what stands behind the five answers of the program. -/
namespace Go.Proofs.YtlbclfponongbaaGreatDoor
open Go.RowKit Classical
theorem kids_one {k : Int} {l : List UInt8} {H G : Nat → (Nat → UInt8) × Int} {m n : Nat} (ho : objOk k l) (h : Kids k l H m) (g : Kids k l G n) : m = n ∧ ∀ i, i < m → (same32 (H i).1 (G i).1 ∧ (H i).2 = (G i).2) := by
  obtain ⟨h1, h2, h3⟩ := h.2 ho
  obtain ⟨g1, g2, g3⟩ := g.2 ho
  rcases obj_kind ho with rfl | rfl | rfl
  · rw [h1 rfl, g1 rfl]; exact ⟨rfl, fun i hi => absurd hi (by omega)⟩
  · obtain ⟨es, a, t, rfl, e1⟩ := h2 rfl
    obtain ⟨fs, b, u, rfl, e2⟩ := g2 rfl
    obtain ⟨q, r⟩ := tree_one t u
    refine ⟨q, fun i hi => ?_⟩
    rw [e1 i hi, e2 i (by omega)]
    exact ⟨(r i hi).2.2, (r i hi).2.1⟩
  · obtain ⟨c, t, rfl, e0, e1⟩ := h3 rfl
    obtain ⟨d, u, rfl, f0, f1⟩ := g3 rfl
    have q := com_one t u
    refine ⟨by rw [q.2.2.1], fun i hi => ?_⟩
    cases i with
    | zero => rw [e0, f0]; exact ⟨q.1, rfl⟩
    | succ i =>
      rw [e1 i (by omega), f1 i (by have := q.2.2.1; omega)]
      exact ⟨q.2.2.2 i (by omega), rfl⟩
def zeroC : Com := ⟨fun _ => 0, 0, fun _ _ => 0, []⟩
/- N: the object's block; the id's, the commit's; the entries, the children -/
structure QR (w0 : World) (k : Int) (l : List UInt8) (ib : Nat) (I : Nat → UInt8) (v : Value) (es : Nat → Ent) (n : Nat) (cb : Nat) (c : Com) (u : Value) (x : Value) (H : Nat → (Nat → UInt8) × Int) (m : Nat) (w : World) : Prop where
  keep : Below w0.heap.size w0 w
  obj : Blk w w0.heap.size 23 2 (ov k l)
  id : Blk w ib 29 32 (bv I)
  ents : Row w v 34 (ec es) n
  com : Blk w cb 37 34 (cv c.tree u c.text)
  pars : Row w u 32 (pc c.par) c.n
  kids : Row w x 33 (hc H) m
theorem QR.below {w0 : World} {k : Int} {l : List UInt8} {ib : Nat} {I : Nat → UInt8} {v : Value} {es : Nat → Ent} {n cb : Nat} {c : Com} {u x : Value} {H : Nat → (Nat → UInt8) × Int} {m : Nat} {w w' : World} (h : QR w0 k l ib I v es n cb c u x H m w) (hb : Below w.heap.size w w') : QR w0 k l ib I v es n cb c u x H m w' :=
  ⟨h.keep.trans (hb.mono h.keep.size), h.obj.below hb h.obj.lt, h.id.below hb h.id.lt, h.ents.below hb, h.com.below hb h.com.lt, h.pars.below hb, h.kids.below hb⟩
end Go.Proofs.YtlbclfponongbaaGreatDoor
