import Derived.Test.YtnmjcpoobabjgaaGreatDoorO12
set_option linter.unusedVariables false
set_option linter.unusedSimpArgs false
/- What an object's body says, and whether the object may be. -/
namespace Go.Proofs.YtnmjcpoobabjgaaGreatDoor
open Go.RowKit Classical
section
variable {P : Program}
theorem ex_build0 {o : Oper} {a : Act} {w : World} {t : TypeId} (ho : o.op = .build t #[]) {v : Value} (hr : (Instr.build t #[]).run P w = .ok v w) : (execOp a.eval o).run P w = .ok (.value v) w := ex_build ho (by simp) hr
theorem results_blk2 {fn : Func} {p u : Tmp} {ty : TypeId} (h : fn.results = #[.cell p ty, .tmp u]) (tmps : Array Value) (w : World) (g : Nat) (E : TypeId) (n : Nat) (f : Nat → Value) (hB : Blk w g E n f) (d : TypeDesc)
  (hp : tmps.getD p undef = .pointer (some ⟨g, 0, none⟩))
  (hu : P.underlying ty = some d) (hd : (match d with | .struct _ | .array _ _ => true | _ => false) = true) (hi : (P.info? ty).map (·.size) = some n) :
  (results fn tmps).run P w = .ok (.tuple #[.agg (arr n f), tmps.getD u undef]) w := by
 have hp' : tmps[p]?.getD undef = .pointer (some ⟨g, 0, none⟩) := by simpa using hp
 have hr := run_loadVar_row (P := P) w g E ty (arr n f) (0, 0) d hB hu hd (by rw [arr_size]; exact hi)
 simp [results, h, hp', asAddr, hr]
end
theorem Blk.over {w : World} {b E n : Nat} {f : Nat → Value} (h : Blk w b E n f) (g : Nat → Value) : Blk (w.setCells b 0 (arr n g).toList) b E n g :=
 (Blk.setCells (arr n g).toList 0 w f h).congr fun j hj => by
  rw [Array.length_toList, arr_size, if_pos ⟨by omega, by omega⟩, List.getD_eq_getElem?_getD, Array.getElem?_toList, Nat.sub_zero, arr_get _ _ _ hj]
  rfl
theorem keepAll {B : Nat} {w w' : World} (h : Below B w w') : Keep (· < B) w w' := Keep.of_below h fun _ h _ => h
/- an object's two cells; the four ways to read a body -/
def ov (k : Int) (l : List UInt8) (i : Nat) : Value := if i = 0 then .int .i64 k else .string (bs l)
theorem ov_arr (k : Int) (l : List UInt8) : (#[.int .i64 k, .string (bs l)] : Array Value) = arr 2 (ov k l) := rfl
def kf (i : Nat) : Value := if i = 0 then .nilFunc else if i = 1 then .func (.func 109) #[] #[] else if i = 2 then .func (.func 110) #[] #[] else .func (.func 111) #[] #[]
theorem kf_one (i : Nat) : (kf i).oneCell' = true := by unfold kf; split; rfl; split; rfl; split <;> rfl
theorem szKinds : (Tryz.prog.info? 181).map (·.size) = some 4 := by kernel_rfl
abbrev sv0 : Nat → Value := sv (.slice none 0 0) (fun _ => 0) (.slice none 0 0) []
theorem bd_said0 (w : World) : (Instr.build 150 #[]).run Tryz.prog w = .ok (.agg (arr 35 sv0)) w := by kernel_rfl
/- what is said of an object that may be -/
def Said (w : World) (k : Int) (l : List UInt8) (v : Value) (t : Nat → UInt8) (pv : Value) (s : List UInt8) : Prop :=
 ∃ es n c, Row w v 34 (ec es) n ∧ Row w pv 32 (pc c.par) c.n ∧ t = c.tree ∧ s = c.text ∧ (objOk k l → (k = 2 → IsTree l es n) ∧ (k ≠ 2 → n = 0) ∧ (k = 3 → IsCom l c) ∧ (k ≠ 3 → c.n = 0))
theorem Said.below {w w' : World} {k : Int} {l : List UInt8} {v : Value} {t : Nat → UInt8} {pv : Value} {s : List UInt8} (h : Said w k l v t pv s) (hb : Below w.heap.size w w') : Said w' k l v t pv s := by
 obtain ⟨es, n, c, h1, h2, h3⟩ := h
 exact ⟨es, n, c, h1.below hb, h2.below hb, h3⟩
theorem Said.keep {K : Nat → Prop} {w w' : World} {k : Int} {l : List UInt8} {v : Value} {t : Nat → UInt8} {pv : Value} {s : List UInt8} (h : Said w k l v t pv s) (hk : Keep K w w') {B : Nat} (h1 : Fresh B v) (h2 : Fresh B pv) (hK : ∀ g, B ≤ g → K g) : Said w' k l v t pv s := by
 obtain ⟨es, n, c, r1, r2, h3⟩ := h
 exact ⟨es, n, c, r1.keep hk fun g o l cap e => hK g (h1 _ _ _ _ e), r2.keep hk fun g o l cap e => hK g (h2 _ _ _ _ e), h3⟩
theorem Said.none (w : World) (k : Int) (l : List UInt8) (h : ¬ objOk k l) : Said w k l (.slice none 0 0) (fun _ => 0) (.slice none 0 0) [] :=
 ⟨fun _ => default, 0, ⟨fun _ => 0, 0, fun _ _ => 0, []⟩, Row.nil _ _ _, Row.nil _ _ _, rfl, rfl, fun h2 => absurd h2 h⟩
theorem blob_any (z : Nat) (s : ByteArray) (w : World) : Calls Tryz.prog 109 #[.pointer (some ⟨z, 0, none⟩), .string s] w fun e w' => e = .returned (.bool true) ∧ w = w' := by
 go_enter Tryz.func109, Tryz.ntmps109
 go_wp2
 go_ret
 exact ⟨rfl, rfl⟩
/- what the chosen way does: its function, its answer, what is in the block then -/
def Way (k : Nat) (l : List UInt8) (g : Nat) (b : Bool) : Prop := ∀ (z : Nat) (w : World), Blk w z 150 35 sv0 →
 Calls Tryz.prog g #[.pointer (some ⟨z, 0, none⟩), .string (bs l)] w fun e w' => ∃ v t pv s, e = .returned (.bool b) ∧ Blk w' z 150 35 (sv v t pv s) ∧ Said w' k l v t pv s ∧ Fresh w.heap.size v ∧ Fresh w.heap.size pv ∧ v.oneCell' = true ∧ pv.oneCell' = true ∧ Keep (fun b => b ≠ z) w w'
theorem row_one {w : World} {v : Value} {m n : Nat} {c : Nat → Value} (h : Row w v m c n) : v.oneCell' = true := by
 obtain ⟨ad, cap, rfl, _⟩ := row_addr h
 rfl
theorem way1 (l : List UInt8) (hl : l.length ≤ 4096) (b : Bool) (hb : b = decide (objOk ((1 : Nat) : Int) l)) : Way 1 l 109 b := fun z w hz => by
 subst hb
 have ho : decide (objOk ((1 : Nat) : Int) l) = true := decide_eq_true ⟨hl, Or.inl rfl⟩
 refine (blob_any z (bs l) w).mono ?_
 rintro e w' ⟨rfl, rfl⟩
 refine ⟨_, _, _, _, by rw [ho], hz, ⟨fun _ => default, 0, ⟨fun _ => 0, 0, fun _ _ => 0, []⟩, Row.nil _ _ _, Row.nil _ _ _, rfl, rfl, fun _ => ⟨fun h => absurd h (by decide), fun _ => rfl, fun h => absurd h (by decide), fun _ => rfl⟩⟩, Fresh.nil _, Fresh.nil _, rfl, rfl, Keep.refl _ _⟩
theorem way2 (l : List UInt8) (hl : l.length ≤ 4096) (b : Bool) (hb : b = decide (objOk ((2 : Nat) : Int) l)) : Way 2 l 110 b := fun z w hz => by
 subst hb
 have ho : objOk ((2 : Nat) : Int) l ↔ isTree l := ⟨fun h => by
  rcases h.2 with h | h | h
  ·exact absurd h (by decide)
  ·exact h.2
  ·exact absurd h.1 (by decide), fun h => ⟨hl, Or.inr (Or.inl ⟨rfl, h⟩)⟩⟩
 refine (readTree_any l z w (by omega) hz).mono ?_
 rintro e w' ⟨es, n, v, rfl, h1, h2, h3, h5, h4⟩
 exact ⟨_, _, _, _, by rw [decide_eq_decide.2 ho], h1, ⟨es, n, ⟨fun _ => 0, 0, fun _ _ => 0, []⟩, h2, Row.nil _ _ _, rfl, rfl, fun h => ⟨fun _ => h3 (ho.1 h), fun h => absurd rfl h, fun h => absurd h (by decide), fun _ => rfl⟩⟩, h5, Fresh.nil _, row_one h2, rfl, h4⟩
theorem way3 (l : List UInt8) (hl : l.length ≤ 4096) (b : Bool) (hb : b = decide (objOk ((3 : Nat) : Int) l)) : Way 3 l 111 b := fun z w hz => by
 subst hb
 have ho : objOk ((3 : Nat) : Int) l ↔ isCom l := ⟨fun h => by
  rcases h.2 with h | h | h
  ·exact absurd h (by decide)
  ·exact absurd h.1 (by decide)
  ·exact h.2, fun h => ⟨hl, Or.inr (Or.inr ⟨rfl, h⟩)⟩⟩
 refine (readCommit_any l z w (by omega) hz).mono ?_
 rintro e w' ⟨c, v, rfl, h1, h2, h3, h5, h4⟩
 exact ⟨_, _, _, _, by rw [decide_eq_decide.2 ho], h1, ⟨fun _ => default, 0, c, Row.nil _ _ _, h2, rfl, rfl, fun h => ⟨fun h => absurd h (by decide), fun _ => rfl, fun _ => h3 (ho.1 h), fun h => absurd rfl h⟩⟩, Fresh.nil _, h5, rfl, row_one h2, h4⟩
set_option maxHeartbeats 2000000 in
set_option maxRecDepth 100000 in
theorem read_any (k : Int) (l : List UInt8) (w : World) :
  Calls Tryz.prog 89 #[.agg #[.int .i64 k, .string (bs l)]] w fun e w' => ∃ v t pv s, e = .returned (.tuple #[.agg (arr 35 (sv v t pv s)), .bool (decide (objOk k l))]) ∧ Said w' k l v t pv s ∧ v.oneCell' = true ∧ pv.oneCell' = true ∧ Fresh w.heap.size pv ∧ Below w.heap.size w w' := by
 have hz := bs_size l
 go_enter Tryz.func89, Tryz.ntmps89
 go_upto_region 1 with fail
 change Code.wp _ _ _ _ ((w.alloc (.cells (arr 2 (ov k l)) 43)).alloc (.cells (arr 35 sv0) 150))
 have BO : Blk ((w.alloc (.cells (arr 2 (ov k l)) 43)).alloc (.cells (arr 35 sv0) 150)) w.heap.size 43 2 (ov k l) := (Blk.newAt _ (heap_alloc_new _ _) rfl : Blk (w.alloc (.cells (arr 2 (ov k l)) 43)) w.heap.size 43 2 (ov k l)).alloc _
 have BR : Blk ((w.alloc (.cells (arr 2 (ov k l)) 43)).alloc (.cells (arr 35 sv0) 150)) (w.heap.size + 1) 150 35 sv0 := Blk.newAt _ (heap_alloc2_new w _ _) rfl
 have L1 : Hid (Below w.heap.size w ((w.alloc (.cells (arr 2 (ov k l)) 43)).alloc (.cells (arr 35 sv0) 150))) := ((Below.refl _ _).alloc (Nat.le_refl _) _).alloc (by simp) _
 obtain ⟨zo, hzo⟩ : ∃ zo, zo = w.heap.size := ⟨_, rfl⟩
 obtain ⟨zr, hzr⟩ : ∃ zr, zr = w.heap.size + 1 := ⟨_, rfl⟩
 rw [← hzo] at BO
 rw [← hzr] at BR
 rw [← hzr, ← hzo]
 have HZ : Hid (zo = w.heap.size ∧ zr = w.heap.size + 1) := ⟨hzo, hzr⟩
 clear hzo hzr
 generalize (w.alloc (.cells (arr 2 (ov k l)) 43)).alloc (.cells (arr 35 sv0) 150) = w1 at BO BR L1 ⊢
 have BR1 := Lib.hid BR
 have BF : Hid (Blk (w1.alloc (.cells (arr 4 kf) 181)) w1.heap.size 181 4 kf) := Blk.newAt _ (heap_alloc_new _ _) rfl
 have BO2 := BO.alloc (.cells (arr 4 kf) 181)
 have BR2 := Lib.hid (BR.alloc (.cells (arr 4 kf) 181))
 have L2 := Lib.hid (L1.out.alloc L1.out.size (.cells (arr 4 kf) 181))
 go_upto_region 2 with (refine wpList_store_blk rfl 181 (.tmp 4) (.tmp 6) rfl w1.heap.size 4 kf (fun _ => .nilFunc) rfl rfl 181 (Blk.newAt _ (heap_alloc_new _ _) rfl) szKinds (fun i _ => kf_one i) ?_)
 rw [World.setRow_alloc_new]
 clear BO BR BR1 L1
 generalize w1.alloc (.cells (arr 4 kf) 181) = w2 at BF BO2 BR2 L2 ⊢
 generalize w1.heap.size = zf at BF ⊢
 have c0 : w2.cell? ⟨zo, 0, none⟩ = some (.int .i64 k) := BO2.cell 0 (by omega)
 have c1 : w2.cell? ⟨zo, 1, none⟩ = some (.string (bs l)) := BO2.cell 1 (by omega)
 have HB := Lib.hid BO2
 clear BO2
 have bad : k < 1 ∨ (¬ k < 1 ∧ 4 ≤ k) ∨ (¬ k < 1 ∧ ¬ 4 ≤ k ∧ 4096 < l.length) ∨ (¬ k < 1 ∧ ¬ 4 ≤ k ∧ l.length ≤ 4096) := by omega
 have N1 : Hid (k < 1 ∨ 4 ≤ k ∨ 4096 < l.length → ¬ objOk k l) := fun h h2 => by
  have := h2.1
  rcases h2.2 with h3 | ⟨h3, _⟩ | ⟨h3, _⟩ <;> omega
 rcases bad with h | ⟨h, h2⟩ | ⟨h, h2, h3⟩ | ⟨h, h2, h3⟩
 ·have NO := Lib.hid (N1.out (Or.inl h))
  go_upto_region 3 with fail
  refine wp_region_lit ?_
  refine wpList_valG (by kernel_rfl) (ex_build0 rfl (bd_said0 _)) ?_
  try simp only [Act.put, tA, tZ, tS]
  refine wpList_unitG (by kernel_rfl) (ex_store 150 (.tmp 2) (.tmp 21) rfl zr 0 35 sv0 rfl rfl (BR2.out.there 0 35 (by omega)) szSaid (fun i _ => sv_one _ rfl _ _ rfl _ i)) ?_
  try simp only [Act.put, tA, tZ, tS]
  refine wpList_valS (v := ?_) (by kernel_rfl) ?_ ?_
  rotate_left 1
  ·(go_simp; try with_reducible rfl)
  try simp only [Act.put, tA, tZ, tS]
  refine wpList_nil ?_
  have B3 := BR2.out.over sv0
  have L3 : Hid (Below w.heap.size w (w2.setCells zr 0 (arr 35 sv0).toList)) := ((keepAll L2.out).trans ((keep_setCells (b := zr) _ 0 w2).mono fun b hb _ => by have := HZ.out.2; omega)).below (Nat.le_refl _)
  clear BR2 L2 BF HB c0 c1
  generalize w2.setCells zr 0 (arr 35 sv0).toList = w3 at B3 L3 ⊢
  go_wp2
  refine bodyPost_ret (results_blk2 rfl _ _ zr 150 35 sv0 B3 _ rfl Tryz.underlying150 rfl szSaid) rfl ⟨_, _, _, _, ?_, Said.none _ _ _ NO.out, rfl, rfl, Fresh.nil _, L3.out⟩
  rw [decide_eq_false NO.out]
  rfl
 ·have NO := Lib.hid (N1.out (Or.inr (Or.inl h2)))
  have d1 : decide (k < 1) = false := decide_eq_false h
  go_upto_region 3 with fail
  refine wp_region_lit ?_
  refine wpList_valG (by kernel_rfl) (ex_build0 rfl (bd_said0 _)) ?_
  try simp only [Act.put, tA, tZ, tS]
  refine wpList_unitG (by kernel_rfl) (ex_store 150 (.tmp 2) (.tmp 21) rfl zr 0 35 sv0 rfl rfl (BR2.out.there 0 35 (by omega)) szSaid (fun i _ => sv_one _ rfl _ _ rfl _ i)) ?_
  try simp only [Act.put, tA, tZ, tS]
  refine wpList_valS (v := ?_) (by kernel_rfl) ?_ ?_
  rotate_left 1
  ·(go_simp; try with_reducible rfl)
  try simp only [Act.put, tA, tZ, tS]
  refine wpList_nil ?_
  have B3 := BR2.out.over sv0
  have L3 : Hid (Below w.heap.size w (w2.setCells zr 0 (arr 35 sv0).toList)) := ((keepAll L2.out).trans ((keep_setCells (b := zr) _ 0 w2).mono fun b hb _ => by have := HZ.out.2; omega)).below (Nat.le_refl _)
  clear BR2 L2 BF HB c0 c1
  generalize w2.setCells zr 0 (arr 35 sv0).toList = w3 at B3 L3 ⊢
  go_wp2
  refine bodyPost_ret (results_blk2 rfl _ _ zr 150 35 sv0 B3 _ rfl Tryz.underlying150 rfl szSaid) rfl ⟨_, _, _, _, ?_, Said.none _ _ _ NO.out, rfl, rfl, Fresh.nil _, L3.out⟩
  rw [decide_eq_false NO.out]
  rfl
 ·have NO := Lib.hid (N1.out (Or.inr (Or.inr h3)))
  have d1 : decide (k < 1) = false := decide_eq_false h
  have d2 : decide (4 ≤ k) = false := decide_eq_false h2
  generalize bs l = sb at hz c1
  have d3 : (4096 : Int) < (sb.size : Int) := by omega
  go_upto_region 3 with fail
  refine wp_region_lit ?_
  refine wpList_valG (by kernel_rfl) (ex_build0 rfl (bd_said0 _)) ?_
  try simp only [Act.put, tA, tZ, tS]
  refine wpList_unitG (by kernel_rfl) (ex_store 150 (.tmp 2) (.tmp 21) rfl zr 0 35 sv0 rfl rfl (BR2.out.there 0 35 (by omega)) szSaid (fun i _ => sv_one _ rfl _ _ rfl _ i)) ?_
  try simp only [Act.put, tA, tZ, tS]
  refine wpList_valS (v := ?_) (by kernel_rfl) ?_ ?_
  rotate_left 1
  ·(go_simp; try with_reducible rfl)
  try simp only [Act.put, tA, tZ, tS]
  refine wpList_nil ?_
  have B3 := BR2.out.over sv0
  have L3 : Hid (Below w.heap.size w (w2.setCells zr 0 (arr 35 sv0).toList)) := ((keepAll L2.out).trans ((keep_setCells (b := zr) _ 0 w2).mono fun b hb _ => by have := HZ.out.2; omega)).below (Nat.le_refl _)
  clear BR2 L2 BF HB c0 c1
  generalize w2.setCells zr 0 (arr 35 sv0).toList = w3 at B3 L3 ⊢
  go_wp2
  refine bodyPost_ret (results_blk2 rfl _ _ zr 150 35 sv0 B3 _ rfl Tryz.underlying150 rfl szSaid) rfl ⟨_, _, _, _, ?_, Said.none _ _ _ NO.out, rfl, rfl, Fresh.nil _, L3.out⟩
  rw [decide_eq_false NO.out]
  rfl
 ·have d1 : decide (k < 1) = false := decide_eq_false h
  have d2 : decide (4 ≤ k) = false := decide_eq_false h2
  have d3 : decide ((4096 : Int) < ((bs l).size : Int)) = false := by rw [hz]; simp; omega
  have ways : k = 1 ∨ k = 2 ∨ k = 3 := by omega
  clear N1 h h2
  rcases ways with rfl | rfl | rfl
  ·obtain ⟨ans, hans⟩ : ∃ ans, ans = decide (objOk 1 l) := ⟨_, rfl⟩
   have hw : Hid (Way 1 l 109 ans) := way1 l h3 ans hans
   have HANS := Lib.hid hans
   clear hans
   have c2 : w2.cell? ⟨zf, 1, none⟩ = some (.func (.func 109) #[] #[]) := BF.out.cell 1 (by omega)
   go_upto_region 5 with fail
   change Code.wp _ _ _ _ (w2.alloc (.cells (arr 35 sv0) 150))
   have B5 : Hid (Blk (w2.alloc (.cells (arr 35 sv0) 150)) w2.heap.size 150 35 sv0) := Blk.newAt _ (heap_alloc_new _ _) rfl
   have A5 := (Below.refl w2.heap.size w2).alloc (Nat.le_refl _) (.cells (arr 35 sv0) 150)
   have hzo : zo < w2.heap.size := block_lt_of_cell c0
   have hzf : zf < w2.heap.size := block_lt_of_cell c2
   have S0 : (w2.alloc (.cells (arr 35 sv0) 150)).drew.cell? ⟨zo, 0, none⟩ = some (.int .i64 1) ∧ (w2.alloc (.cells (arr 35 sv0) 150)).drew.cell? ⟨zo, 1, none⟩ = some (.string (bs l)) ∧ (w2.alloc (.cells (arr 35 sv0) 150)).drew.cell? ⟨zf, 1, none⟩ = some (.func (.func 109) #[] #[]) :=
    ⟨(A5.cell hzo).trans c0, (A5.cell hzo).trans c1, (A5.cell hzf).trans c2⟩
   have HZ2 : Hid (zo < w2.heap.size ∧ zf < w2.heap.size ∧ zr < w2.heap.size) := ⟨hzo, hzf, BR2.out.lt⟩
   have L3 := Lib.hid (L2.out.alloc L2.out.size (.cells (arr 35 sv0) 150))
   have BR3 := Lib.hid (BR2.out.alloc (.cells (arr 35 sv0) 150))
   clear A5 hzo hzf c0 c1 c2 BF HB BR2 L2
   generalize w2.alloc (.cells (arr 35 sv0) 150) = w3 at B5 S0 L3 BR3 ⊢
   generalize w2.heap.size = z5 at B5 HZ2 ⊢
   have W3 : Hid (z5 < w3.drew.heap.size) := B5.out.lt
   refine wp_region_noPanic ?_
   refine wp_region_held_drew (S := (fun W => W.cell? ⟨zo, 0, none⟩ = some (.int .i64 1) ∧ W.cell? ⟨zo, 1, none⟩ = some (.string (bs l)) ∧ W.cell? ⟨zf, 1, none⟩ = some (.func (.func 109) #[] #[]))) (by kernel_rfl) S0 (fun hHeld => ?_)
   refine wpAnyH_take (i := 0) (oi := ⟨some 22, .fieldAddr 43 (.tmp 1) 0, 0, "body.go:27", #[], none⟩) (v := ?_) rfl (by kernel_rfl) (by kernel_rfl) (by kernel_rfl) (fun _ _ _ h => h) (Or.inl ⟨by kernel_rfl, ?_⟩) (by assumption) ?_
   rotate_left 1
   ·(intro wS hSw; (try dsimp only at hSw); go_simp; try with_reducible rfl)
   try simp only [Act.put, tA, tZ, tS]
   refine wpAnyH_take (i := 1) (oi := ⟨some 23, .load 3 (.tmp 22), 3, "body.go:27", #[⟨0, .data⟩], none⟩) (v := ?_) rfl (by kernel_rfl) (by kernel_rfl) (by kernel_rfl) (fun _ _ _ h => h) (Or.inl ⟨by kernel_rfl, ?_⟩) (by assumption) ?_
   rotate_left 1
   ·(intro wS hSw; (try dsimp only at hSw); go_simp; try with_reducible rfl)
   try simp only [Act.put, tA, tZ, tS]
   refine wpAnyH_take (i := 2) (oi := ⟨some 24, .indexAddr 181 (.tmp 4) (.tmp 23), 0, "body.go:27", #[⟨1, .data⟩], none⟩) (v := ?_) rfl (by kernel_rfl) (by kernel_rfl) (by kernel_rfl) (fun _ _ _ h => h) (Or.inl ⟨by kernel_rfl, ?_⟩) (by assumption) ?_
   rotate_left 1
   ·(intro wS hSw; (try dsimp only at hSw); go_simp; try with_reducible rfl)
   try simp only [Act.put, tA, tZ, tS]
   refine wpAnyH_take (i := 3) (oi := ⟨some 25, .load 178 (.tmp 24), 178, "body.go:27", #[⟨2, .data⟩], none⟩) (v := ?_) rfl (by kernel_rfl) (by kernel_rfl) (by kernel_rfl) (fun _ _ _ h => h) (Or.inl ⟨by kernel_rfl, ?_⟩) (by assumption) ?_
   rotate_left 1
   ·(intro wS hSw; (try dsimp only at hSw); go_simp; try with_reducible rfl)
   try simp only [Act.put, tA, tZ, tS]
   refine wpAnyH_take (i := 4) (oi := ⟨some 26, .fieldAddr 43 (.tmp 1) 1, 0, "body.go:27", #[], none⟩) (v := ?_) rfl (by kernel_rfl) (by kernel_rfl) (by kernel_rfl) (fun _ _ _ h => h) (Or.inl ⟨by kernel_rfl, ?_⟩) (by assumption) ?_
   rotate_left 1
   ·(intro wS hSw; (try dsimp only at hSw); go_simp; try with_reducible rfl)
   try simp only [Act.put, tA, tZ, tS]
   refine wpAnyH_take (i := 5) (oi := ⟨some 27, .load 9 (.tmp 26), 9, "body.go:27", #[⟨4, .data⟩], none⟩) (v := ?_) rfl (by kernel_rfl) (by kernel_rfl) (by kernel_rfl) (fun _ _ _ h => h) (Or.inl ⟨by kernel_rfl, ?_⟩) (by assumption) ?_
   rotate_left 1
   ·(intro wS hSw; (try dsimp only at hSw); go_simp; try with_reducible rfl)
   try simp only [Act.put, tA, tZ, tS]
   refine wpAnyH_ready (rs := [6]) (by kernel_rfl) (by simp) ?_
   refine AllReadyH.cons (o := ⟨some 28, .call { callee := .value (.tmp 25), args := #[.tmp 5, .tmp 27], argTypes := #[180, 9] }, 4, "body.go:27", #[⟨3, .data⟩, ⟨5, .data⟩], none⟩) rfl (fun K hK => ?_) AllReadyH.nil
   go_simp
   refine (hw.out z5 w3.drew B5.out).mono ?_
   rintro e w4 ⟨v, t, pv, s, rfl, B6, S6, fr1, fr2, o1, o2, K6⟩
   have Sa6 := And.intro (K6.cell (show zo ≠ z5 by have := HZ2.out.1; omega) S0.1) (And.intro (K6.cell (show zo ≠ z5 by have := HZ2.out.1; omega) S0.2.1) (K6.cell (show zf ≠ z5 by have := HZ2.out.2.1; omega) S0.2.2))
   refine hK.out _ _ Sa6 (fun hHeld6 => ?_)
   clear hK K
   try simp only [Act.put, tA, tZ, tS]
   refine wpAnyH_take (i := 7) (oi := ⟨some 29, .unOp UnOp.not 4 (.tmp 28), 4, "body.go:27", #[⟨6, .data⟩], none⟩) (v := ?_) rfl (by kernel_rfl) (by kernel_rfl) (by kernel_rfl) (fun _ _ _ h => h) (Or.inl ⟨by kernel_rfl, ?_⟩) (by assumption) ?_
   rotate_left 1
   ·(intro wS hSw; (try dsimp only at hSw); go_simp; try with_reducible rfl)
   try simp only [Act.put, tA, tZ, tS]
   refine wpAnyH_done (by kernel_rfl) ?_ _
   refine NoPanic.normal ?_
   have L4 : Hid (Keep (fun b => b < w.heap.size) w w4) := (keepAll L3.out).drew.trans (K6.mono fun b hb hl => by have := HZ.out; have := HZ2.out; omega)
   have BR4 := Lib.hid (K6.blk (show zr ≠ z5 by have := HZ2.out.2.2; omega) BR3.out : Blk w4 zr 150 35 sv0)
   have B7 := Lib.hid B6
   have F2 : Hid (Fresh w.heap.size pv) := fun g o n c h => Nat.le_trans (L3.out.size : w.heap.size ≤ w3.heap.size) (fr2 g o n c h)
   clear Sa6 hHeld6 hHeld S0 K6 B5 BR3 L3 B6
   cases ans
   rotate_left 1
   ·have HO : Hid (decide (objOk 1 l) = true) := HANS.out.symm
    simp only [Bool.not_true]
    go_upto_region 7 with fail
    refine wp_region_lit ?_
    refine wpList_valG (by kernel_rfl) (ex_load 150 (.tmp 5) rfl z5 0 35 (sv v t pv s) rfl Tryz.underlying150 rfl szSaid B7.out.at0) ?_
    try simp only [Act.put, tA, tZ, tS]
    refine wpList_unitG (by kernel_rfl) (ex_store 150 (.tmp 2) (.tmp 31) rfl zr 0 35 (sv v t pv s) rfl rfl (BR4.out.there 0 35 (by omega)) szSaid (fun i _ => sv_one _ o1 _ _ o2 _ i)) ?_
    try simp only [Act.put, tA, tZ, tS]
    refine wpList_valS (v := ?_) (by kernel_rfl) ?_ ?_
    rotate_left 1
    ·(go_simp; try with_reducible rfl)
    try simp only [Act.put, tA, tZ, tS]
    refine wpList_nil ?_
    have B3 := BR4.out.over (sv v t pv s)
    have KZ := (keep_setCells (b := zr) (arr 35 (sv v t pv s)).toList 0 w4)
    have L5 : Hid (Below w.heap.size w (w4.setCells zr 0 (arr 35 (sv v t pv s)).toList)) := (L4.out.trans (KZ.mono fun b hb _ => by have := HZ.out.2; omega)).below (Nat.le_refl _)
    have S7 : Hid (Said (w4.setCells zr 0 (arr 35 (sv v t pv s)).toList) 1 l v t pv s) := S6.keep KZ fr1 fr2 fun g hg => by have := HZ2.out.2.2; have := W3.out; omega
    clear BR4 L4 B7 S6 KZ
    generalize w4.setCells zr 0 (arr 35 (sv v t pv s)).toList = w5 at B3 L5 S7 ⊢
    go_wp2
    refine bodyPost_ret (results_blk2 rfl _ _ zr 150 35 (sv v t pv s) B3 _ rfl Tryz.underlying150 rfl szSaid) rfl ⟨_, _, _, _, ?_, S7.out, o1, o2, F2.out, L5.out⟩
    rw [HO.out]
    rfl
   ·have NO := Lib.hid (of_decide_eq_false HANS.out.symm)
    simp only [Bool.not_false]
    go_wp2_with (refine wpList_unit rfl _ (ex_store 150 (.tmp 2) (.tmp 30) rfl zr 0 35 sv0 rfl rfl (BR4.out.there 0 35 (by omega)) szSaid (fun i _ => sv_one _ rfl _ _ rfl _ i)) ?_)
    have B3 := BR4.out.over sv0
    have KZ := (keep_setCells (b := zr) (arr 35 sv0).toList 0 w4)
    have L5 : Hid (Below w.heap.size w (w4.setCells zr 0 (arr 35 sv0).toList)) := (L4.out.trans (KZ.mono fun b hb _ => by have := HZ.out.2; omega)).below (Nat.le_refl _)
    clear BR4 L4 B7 S6 KZ
    generalize w4.setCells zr 0 (arr 35 sv0).toList = w5 at B3 L5 ⊢
    refine bodyPost_ret (results_blk2 rfl _ _ zr 150 35 sv0 B3 _ rfl Tryz.underlying150 rfl szSaid) rfl ⟨_, _, _, _, ?_, Said.none _ _ _ NO.out, rfl, rfl, Fresh.nil _, L5.out⟩
    rw [decide_eq_false NO.out]
    rfl
  ·obtain ⟨ans, hans⟩ : ∃ ans, ans = decide (objOk 2 l) := ⟨_, rfl⟩
   have hw : Hid (Way 2 l 110 ans) := way2 l h3 ans hans
   have HANS := Lib.hid hans
   clear hans
   have c2 : w2.cell? ⟨zf, 2, none⟩ = some (.func (.func 110) #[] #[]) := BF.out.cell 2 (by omega)
   go_upto_region 5 with fail
   change Code.wp _ _ _ _ (w2.alloc (.cells (arr 35 sv0) 150))
   have B5 : Hid (Blk (w2.alloc (.cells (arr 35 sv0) 150)) w2.heap.size 150 35 sv0) := Blk.newAt _ (heap_alloc_new _ _) rfl
   have A5 := (Below.refl w2.heap.size w2).alloc (Nat.le_refl _) (.cells (arr 35 sv0) 150)
   have hzo : zo < w2.heap.size := block_lt_of_cell c0
   have hzf : zf < w2.heap.size := block_lt_of_cell c2
   have S0 : (w2.alloc (.cells (arr 35 sv0) 150)).drew.cell? ⟨zo, 0, none⟩ = some (.int .i64 2) ∧ (w2.alloc (.cells (arr 35 sv0) 150)).drew.cell? ⟨zo, 1, none⟩ = some (.string (bs l)) ∧ (w2.alloc (.cells (arr 35 sv0) 150)).drew.cell? ⟨zf, 2, none⟩ = some (.func (.func 110) #[] #[]) :=
    ⟨(A5.cell hzo).trans c0, (A5.cell hzo).trans c1, (A5.cell hzf).trans c2⟩
   have HZ2 : Hid (zo < w2.heap.size ∧ zf < w2.heap.size ∧ zr < w2.heap.size) := ⟨hzo, hzf, BR2.out.lt⟩
   have L3 := Lib.hid (L2.out.alloc L2.out.size (.cells (arr 35 sv0) 150))
   have BR3 := Lib.hid (BR2.out.alloc (.cells (arr 35 sv0) 150))
   clear A5 hzo hzf c0 c1 c2 BF HB BR2 L2
   generalize w2.alloc (.cells (arr 35 sv0) 150) = w3 at B5 S0 L3 BR3 ⊢
   generalize w2.heap.size = z5 at B5 HZ2 ⊢
   have W3 : Hid (z5 < w3.drew.heap.size) := B5.out.lt
   refine wp_region_noPanic ?_
   refine wp_region_held_drew (S := (fun W => W.cell? ⟨zo, 0, none⟩ = some (.int .i64 2) ∧ W.cell? ⟨zo, 1, none⟩ = some (.string (bs l)) ∧ W.cell? ⟨zf, 2, none⟩ = some (.func (.func 110) #[] #[]))) (by kernel_rfl) S0 (fun hHeld => ?_)
   refine wpAnyH_take (i := 0) (oi := ⟨some 22, .fieldAddr 43 (.tmp 1) 0, 0, "body.go:27", #[], none⟩) (v := ?_) rfl (by kernel_rfl) (by kernel_rfl) (by kernel_rfl) (fun _ _ _ h => h) (Or.inl ⟨by kernel_rfl, ?_⟩) (by assumption) ?_
   rotate_left 1
   ·(intro wS hSw; (try dsimp only at hSw); go_simp; try with_reducible rfl)
   try simp only [Act.put, tA, tZ, tS]
   refine wpAnyH_take (i := 1) (oi := ⟨some 23, .load 3 (.tmp 22), 3, "body.go:27", #[⟨0, .data⟩], none⟩) (v := ?_) rfl (by kernel_rfl) (by kernel_rfl) (by kernel_rfl) (fun _ _ _ h => h) (Or.inl ⟨by kernel_rfl, ?_⟩) (by assumption) ?_
   rotate_left 1
   ·(intro wS hSw; (try dsimp only at hSw); go_simp; try with_reducible rfl)
   try simp only [Act.put, tA, tZ, tS]
   refine wpAnyH_take (i := 2) (oi := ⟨some 24, .indexAddr 181 (.tmp 4) (.tmp 23), 0, "body.go:27", #[⟨1, .data⟩], none⟩) (v := ?_) rfl (by kernel_rfl) (by kernel_rfl) (by kernel_rfl) (fun _ _ _ h => h) (Or.inl ⟨by kernel_rfl, ?_⟩) (by assumption) ?_
   rotate_left 1
   ·(intro wS hSw; (try dsimp only at hSw); go_simp; try with_reducible rfl)
   try simp only [Act.put, tA, tZ, tS]
   refine wpAnyH_take (i := 3) (oi := ⟨some 25, .load 178 (.tmp 24), 178, "body.go:27", #[⟨2, .data⟩], none⟩) (v := ?_) rfl (by kernel_rfl) (by kernel_rfl) (by kernel_rfl) (fun _ _ _ h => h) (Or.inl ⟨by kernel_rfl, ?_⟩) (by assumption) ?_
   rotate_left 1
   ·(intro wS hSw; (try dsimp only at hSw); go_simp; try with_reducible rfl)
   try simp only [Act.put, tA, tZ, tS]
   refine wpAnyH_take (i := 4) (oi := ⟨some 26, .fieldAddr 43 (.tmp 1) 1, 0, "body.go:27", #[], none⟩) (v := ?_) rfl (by kernel_rfl) (by kernel_rfl) (by kernel_rfl) (fun _ _ _ h => h) (Or.inl ⟨by kernel_rfl, ?_⟩) (by assumption) ?_
   rotate_left 1
   ·(intro wS hSw; (try dsimp only at hSw); go_simp; try with_reducible rfl)
   try simp only [Act.put, tA, tZ, tS]
   refine wpAnyH_take (i := 5) (oi := ⟨some 27, .load 9 (.tmp 26), 9, "body.go:27", #[⟨4, .data⟩], none⟩) (v := ?_) rfl (by kernel_rfl) (by kernel_rfl) (by kernel_rfl) (fun _ _ _ h => h) (Or.inl ⟨by kernel_rfl, ?_⟩) (by assumption) ?_
   rotate_left 1
   ·(intro wS hSw; (try dsimp only at hSw); go_simp; try with_reducible rfl)
   try simp only [Act.put, tA, tZ, tS]
   refine wpAnyH_ready (rs := [6]) (by kernel_rfl) (by simp) ?_
   refine AllReadyH.cons (o := ⟨some 28, .call { callee := .value (.tmp 25), args := #[.tmp 5, .tmp 27], argTypes := #[180, 9] }, 4, "body.go:27", #[⟨3, .data⟩, ⟨5, .data⟩], none⟩) rfl (fun K hK => ?_) AllReadyH.nil
   go_simp
   refine (hw.out z5 w3.drew B5.out).mono ?_
   rintro e w4 ⟨v, t, pv, s, rfl, B6, S6, fr1, fr2, o1, o2, K6⟩
   have Sa6 := And.intro (K6.cell (show zo ≠ z5 by have := HZ2.out.1; omega) S0.1) (And.intro (K6.cell (show zo ≠ z5 by have := HZ2.out.1; omega) S0.2.1) (K6.cell (show zf ≠ z5 by have := HZ2.out.2.1; omega) S0.2.2))
   refine hK.out _ _ Sa6 (fun hHeld6 => ?_)
   clear hK K
   try simp only [Act.put, tA, tZ, tS]
   refine wpAnyH_take (i := 7) (oi := ⟨some 29, .unOp UnOp.not 4 (.tmp 28), 4, "body.go:27", #[⟨6, .data⟩], none⟩) (v := ?_) rfl (by kernel_rfl) (by kernel_rfl) (by kernel_rfl) (fun _ _ _ h => h) (Or.inl ⟨by kernel_rfl, ?_⟩) (by assumption) ?_
   rotate_left 1
   ·(intro wS hSw; (try dsimp only at hSw); go_simp; try with_reducible rfl)
   try simp only [Act.put, tA, tZ, tS]
   refine wpAnyH_done (by kernel_rfl) ?_ _
   refine NoPanic.normal ?_
   have L4 : Hid (Keep (fun b => b < w.heap.size) w w4) := (keepAll L3.out).drew.trans (K6.mono fun b hb hl => by have := HZ.out; have := HZ2.out; omega)
   have BR4 := Lib.hid (K6.blk (show zr ≠ z5 by have := HZ2.out.2.2; omega) BR3.out : Blk w4 zr 150 35 sv0)
   have B7 := Lib.hid B6
   have F2 : Hid (Fresh w.heap.size pv) := fun g o n c h => Nat.le_trans (L3.out.size : w.heap.size ≤ w3.heap.size) (fr2 g o n c h)
   clear Sa6 hHeld6 hHeld S0 K6 B5 BR3 L3 B6
   cases ans
   rotate_left 1
   ·have HO : Hid (decide (objOk 2 l) = true) := HANS.out.symm
    simp only [Bool.not_true]
    go_upto_region 7 with fail
    refine wp_region_lit ?_
    refine wpList_valG (by kernel_rfl) (ex_load 150 (.tmp 5) rfl z5 0 35 (sv v t pv s) rfl Tryz.underlying150 rfl szSaid B7.out.at0) ?_
    try simp only [Act.put, tA, tZ, tS]
    refine wpList_unitG (by kernel_rfl) (ex_store 150 (.tmp 2) (.tmp 31) rfl zr 0 35 (sv v t pv s) rfl rfl (BR4.out.there 0 35 (by omega)) szSaid (fun i _ => sv_one _ o1 _ _ o2 _ i)) ?_
    try simp only [Act.put, tA, tZ, tS]
    refine wpList_valS (v := ?_) (by kernel_rfl) ?_ ?_
    rotate_left 1
    ·(go_simp; try with_reducible rfl)
    try simp only [Act.put, tA, tZ, tS]
    refine wpList_nil ?_
    have B3 := BR4.out.over (sv v t pv s)
    have KZ := (keep_setCells (b := zr) (arr 35 (sv v t pv s)).toList 0 w4)
    have L5 : Hid (Below w.heap.size w (w4.setCells zr 0 (arr 35 (sv v t pv s)).toList)) := (L4.out.trans (KZ.mono fun b hb _ => by have := HZ.out.2; omega)).below (Nat.le_refl _)
    have S7 : Hid (Said (w4.setCells zr 0 (arr 35 (sv v t pv s)).toList) 2 l v t pv s) := S6.keep KZ fr1 fr2 fun g hg => by have := HZ2.out.2.2; have := W3.out; omega
    clear BR4 L4 B7 S6 KZ
    generalize w4.setCells zr 0 (arr 35 (sv v t pv s)).toList = w5 at B3 L5 S7 ⊢
    go_wp2
    refine bodyPost_ret (results_blk2 rfl _ _ zr 150 35 (sv v t pv s) B3 _ rfl Tryz.underlying150 rfl szSaid) rfl ⟨_, _, _, _, ?_, S7.out, o1, o2, F2.out, L5.out⟩
    rw [HO.out]
    rfl
   ·have NO := Lib.hid (of_decide_eq_false HANS.out.symm)
    simp only [Bool.not_false]
    go_wp2_with (refine wpList_unit rfl _ (ex_store 150 (.tmp 2) (.tmp 30) rfl zr 0 35 sv0 rfl rfl (BR4.out.there 0 35 (by omega)) szSaid (fun i _ => sv_one _ rfl _ _ rfl _ i)) ?_)
    have B3 := BR4.out.over sv0
    have KZ := (keep_setCells (b := zr) (arr 35 sv0).toList 0 w4)
    have L5 : Hid (Below w.heap.size w (w4.setCells zr 0 (arr 35 sv0).toList)) := (L4.out.trans (KZ.mono fun b hb _ => by have := HZ.out.2; omega)).below (Nat.le_refl _)
    clear BR4 L4 B7 S6 KZ
    generalize w4.setCells zr 0 (arr 35 sv0).toList = w5 at B3 L5 ⊢
    refine bodyPost_ret (results_blk2 rfl _ _ zr 150 35 sv0 B3 _ rfl Tryz.underlying150 rfl szSaid) rfl ⟨_, _, _, _, ?_, Said.none _ _ _ NO.out, rfl, rfl, Fresh.nil _, L5.out⟩
    rw [decide_eq_false NO.out]
    rfl
  ·obtain ⟨ans, hans⟩ : ∃ ans, ans = decide (objOk 3 l) := ⟨_, rfl⟩
   have hw : Hid (Way 3 l 111 ans) := way3 l h3 ans hans
   have HANS := Lib.hid hans
   clear hans
   have c2 : w2.cell? ⟨zf, 3, none⟩ = some (.func (.func 111) #[] #[]) := BF.out.cell 3 (by omega)
   go_upto_region 5 with fail
   change Code.wp _ _ _ _ (w2.alloc (.cells (arr 35 sv0) 150))
   have B5 : Hid (Blk (w2.alloc (.cells (arr 35 sv0) 150)) w2.heap.size 150 35 sv0) := Blk.newAt _ (heap_alloc_new _ _) rfl
   have A5 := (Below.refl w2.heap.size w2).alloc (Nat.le_refl _) (.cells (arr 35 sv0) 150)
   have hzo : zo < w2.heap.size := block_lt_of_cell c0
   have hzf : zf < w2.heap.size := block_lt_of_cell c2
   have S0 : (w2.alloc (.cells (arr 35 sv0) 150)).drew.cell? ⟨zo, 0, none⟩ = some (.int .i64 3) ∧ (w2.alloc (.cells (arr 35 sv0) 150)).drew.cell? ⟨zo, 1, none⟩ = some (.string (bs l)) ∧ (w2.alloc (.cells (arr 35 sv0) 150)).drew.cell? ⟨zf, 3, none⟩ = some (.func (.func 111) #[] #[]) :=
    ⟨(A5.cell hzo).trans c0, (A5.cell hzo).trans c1, (A5.cell hzf).trans c2⟩
   have HZ2 : Hid (zo < w2.heap.size ∧ zf < w2.heap.size ∧ zr < w2.heap.size) := ⟨hzo, hzf, BR2.out.lt⟩
   have L3 := Lib.hid (L2.out.alloc L2.out.size (.cells (arr 35 sv0) 150))
   have BR3 := Lib.hid (BR2.out.alloc (.cells (arr 35 sv0) 150))
   clear A5 hzo hzf c0 c1 c2 BF HB BR2 L2
   generalize w2.alloc (.cells (arr 35 sv0) 150) = w3 at B5 S0 L3 BR3 ⊢
   generalize w2.heap.size = z5 at B5 HZ2 ⊢
   have W3 : Hid (z5 < w3.drew.heap.size) := B5.out.lt
   refine wp_region_noPanic ?_
   refine wp_region_held_drew (S := (fun W => W.cell? ⟨zo, 0, none⟩ = some (.int .i64 3) ∧ W.cell? ⟨zo, 1, none⟩ = some (.string (bs l)) ∧ W.cell? ⟨zf, 3, none⟩ = some (.func (.func 111) #[] #[]))) (by kernel_rfl) S0 (fun hHeld => ?_)
   refine wpAnyH_take (i := 0) (oi := ⟨some 22, .fieldAddr 43 (.tmp 1) 0, 0, "body.go:27", #[], none⟩) (v := ?_) rfl (by kernel_rfl) (by kernel_rfl) (by kernel_rfl) (fun _ _ _ h => h) (Or.inl ⟨by kernel_rfl, ?_⟩) (by assumption) ?_
   rotate_left 1
   ·(intro wS hSw; (try dsimp only at hSw); go_simp; try with_reducible rfl)
   try simp only [Act.put, tA, tZ, tS]
   refine wpAnyH_take (i := 1) (oi := ⟨some 23, .load 3 (.tmp 22), 3, "body.go:27", #[⟨0, .data⟩], none⟩) (v := ?_) rfl (by kernel_rfl) (by kernel_rfl) (by kernel_rfl) (fun _ _ _ h => h) (Or.inl ⟨by kernel_rfl, ?_⟩) (by assumption) ?_
   rotate_left 1
   ·(intro wS hSw; (try dsimp only at hSw); go_simp; try with_reducible rfl)
   try simp only [Act.put, tA, tZ, tS]
   refine wpAnyH_take (i := 2) (oi := ⟨some 24, .indexAddr 181 (.tmp 4) (.tmp 23), 0, "body.go:27", #[⟨1, .data⟩], none⟩) (v := ?_) rfl (by kernel_rfl) (by kernel_rfl) (by kernel_rfl) (fun _ _ _ h => h) (Or.inl ⟨by kernel_rfl, ?_⟩) (by assumption) ?_
   rotate_left 1
   ·(intro wS hSw; (try dsimp only at hSw); go_simp; try with_reducible rfl)
   try simp only [Act.put, tA, tZ, tS]
   refine wpAnyH_take (i := 3) (oi := ⟨some 25, .load 178 (.tmp 24), 178, "body.go:27", #[⟨2, .data⟩], none⟩) (v := ?_) rfl (by kernel_rfl) (by kernel_rfl) (by kernel_rfl) (fun _ _ _ h => h) (Or.inl ⟨by kernel_rfl, ?_⟩) (by assumption) ?_
   rotate_left 1
   ·(intro wS hSw; (try dsimp only at hSw); go_simp; try with_reducible rfl)
   try simp only [Act.put, tA, tZ, tS]
   refine wpAnyH_take (i := 4) (oi := ⟨some 26, .fieldAddr 43 (.tmp 1) 1, 0, "body.go:27", #[], none⟩) (v := ?_) rfl (by kernel_rfl) (by kernel_rfl) (by kernel_rfl) (fun _ _ _ h => h) (Or.inl ⟨by kernel_rfl, ?_⟩) (by assumption) ?_
   rotate_left 1
   ·(intro wS hSw; (try dsimp only at hSw); go_simp; try with_reducible rfl)
   try simp only [Act.put, tA, tZ, tS]
   refine wpAnyH_take (i := 5) (oi := ⟨some 27, .load 9 (.tmp 26), 9, "body.go:27", #[⟨4, .data⟩], none⟩) (v := ?_) rfl (by kernel_rfl) (by kernel_rfl) (by kernel_rfl) (fun _ _ _ h => h) (Or.inl ⟨by kernel_rfl, ?_⟩) (by assumption) ?_
   rotate_left 1
   ·(intro wS hSw; (try dsimp only at hSw); go_simp; try with_reducible rfl)
   try simp only [Act.put, tA, tZ, tS]
   refine wpAnyH_ready (rs := [6]) (by kernel_rfl) (by simp) ?_
   refine AllReadyH.cons (o := ⟨some 28, .call { callee := .value (.tmp 25), args := #[.tmp 5, .tmp 27], argTypes := #[180, 9] }, 4, "body.go:27", #[⟨3, .data⟩, ⟨5, .data⟩], none⟩) rfl (fun K hK => ?_) AllReadyH.nil
   go_simp
   refine (hw.out z5 w3.drew B5.out).mono ?_
   rintro e w4 ⟨v, t, pv, s, rfl, B6, S6, fr1, fr2, o1, o2, K6⟩
   have Sa6 := And.intro (K6.cell (show zo ≠ z5 by have := HZ2.out.1; omega) S0.1) (And.intro (K6.cell (show zo ≠ z5 by have := HZ2.out.1; omega) S0.2.1) (K6.cell (show zf ≠ z5 by have := HZ2.out.2.1; omega) S0.2.2))
   refine hK.out _ _ Sa6 (fun hHeld6 => ?_)
   clear hK K
   try simp only [Act.put, tA, tZ, tS]
   refine wpAnyH_take (i := 7) (oi := ⟨some 29, .unOp UnOp.not 4 (.tmp 28), 4, "body.go:27", #[⟨6, .data⟩], none⟩) (v := ?_) rfl (by kernel_rfl) (by kernel_rfl) (by kernel_rfl) (fun _ _ _ h => h) (Or.inl ⟨by kernel_rfl, ?_⟩) (by assumption) ?_
   rotate_left 1
   ·(intro wS hSw; (try dsimp only at hSw); go_simp; try with_reducible rfl)
   try simp only [Act.put, tA, tZ, tS]
   refine wpAnyH_done (by kernel_rfl) ?_ _
   refine NoPanic.normal ?_
   have L4 : Hid (Keep (fun b => b < w.heap.size) w w4) := (keepAll L3.out).drew.trans (K6.mono fun b hb hl => by have := HZ.out; have := HZ2.out; omega)
   have BR4 := Lib.hid (K6.blk (show zr ≠ z5 by have := HZ2.out.2.2; omega) BR3.out : Blk w4 zr 150 35 sv0)
   have B7 := Lib.hid B6
   have F2 : Hid (Fresh w.heap.size pv) := fun g o n c h => Nat.le_trans (L3.out.size : w.heap.size ≤ w3.heap.size) (fr2 g o n c h)
   clear Sa6 hHeld6 hHeld S0 K6 B5 BR3 L3 B6
   cases ans
   rotate_left 1
   ·have HO : Hid (decide (objOk 3 l) = true) := HANS.out.symm
    simp only [Bool.not_true]
    go_upto_region 7 with fail
    refine wp_region_lit ?_
    refine wpList_valG (by kernel_rfl) (ex_load 150 (.tmp 5) rfl z5 0 35 (sv v t pv s) rfl Tryz.underlying150 rfl szSaid B7.out.at0) ?_
    try simp only [Act.put, tA, tZ, tS]
    refine wpList_unitG (by kernel_rfl) (ex_store 150 (.tmp 2) (.tmp 31) rfl zr 0 35 (sv v t pv s) rfl rfl (BR4.out.there 0 35 (by omega)) szSaid (fun i _ => sv_one _ o1 _ _ o2 _ i)) ?_
    try simp only [Act.put, tA, tZ, tS]
    refine wpList_valS (v := ?_) (by kernel_rfl) ?_ ?_
    rotate_left 1
    ·(go_simp; try with_reducible rfl)
    try simp only [Act.put, tA, tZ, tS]
    refine wpList_nil ?_
    have B3 := BR4.out.over (sv v t pv s)
    have KZ := (keep_setCells (b := zr) (arr 35 (sv v t pv s)).toList 0 w4)
    have L5 : Hid (Below w.heap.size w (w4.setCells zr 0 (arr 35 (sv v t pv s)).toList)) := (L4.out.trans (KZ.mono fun b hb _ => by have := HZ.out.2; omega)).below (Nat.le_refl _)
    have S7 : Hid (Said (w4.setCells zr 0 (arr 35 (sv v t pv s)).toList) 3 l v t pv s) := S6.keep KZ fr1 fr2 fun g hg => by have := HZ2.out.2.2; have := W3.out; omega
    clear BR4 L4 B7 S6 KZ
    generalize w4.setCells zr 0 (arr 35 (sv v t pv s)).toList = w5 at B3 L5 S7 ⊢
    go_wp2
    refine bodyPost_ret (results_blk2 rfl _ _ zr 150 35 (sv v t pv s) B3 _ rfl Tryz.underlying150 rfl szSaid) rfl ⟨_, _, _, _, ?_, S7.out, o1, o2, F2.out, L5.out⟩
    rw [HO.out]
    rfl
   ·have NO := Lib.hid (of_decide_eq_false HANS.out.symm)
    simp only [Bool.not_false]
    go_wp2_with (refine wpList_unit rfl _ (ex_store 150 (.tmp 2) (.tmp 30) rfl zr 0 35 sv0 rfl rfl (BR4.out.there 0 35 (by omega)) szSaid (fun i _ => sv_one _ rfl _ _ rfl _ i)) ?_)
    have B3 := BR4.out.over sv0
    have KZ := (keep_setCells (b := zr) (arr 35 sv0).toList 0 w4)
    have L5 : Hid (Below w.heap.size w (w4.setCells zr 0 (arr 35 sv0).toList)) := (L4.out.trans (KZ.mono fun b hb _ => by have := HZ.out.2; omega)).below (Nat.le_refl _)
    clear BR4 L4 B7 S6 KZ
    generalize w4.setCells zr 0 (arr 35 sv0).toList = w5 at B3 L5 ⊢
    refine bodyPost_ret (results_blk2 rfl _ _ zr 150 35 sv0 B3 _ rfl Tryz.underlying150 rfl szSaid) rfl ⟨_, _, _, _, ?_, Said.none _ _ _ NO.out, rfl, rfl, Fresh.nil _, L5.out⟩
    rw [decide_eq_false NO.out]
    rfl
end Go.Proofs.YtnmjcpoobabjgaaGreatDoor
/- Whether an object may be; its frame. -/
namespace Go.Proofs.YtnmjcpoobabjgaaGreatDoor
open Go.RowKit Classical
set_option maxHeartbeats 2000000 in
set_option maxRecDepth 100000 in
theorem right_any (k : Int) (l : List UInt8) (w : World) :
    Calls Tryz.prog 70 #[.agg #[.int .i64 k, .string (bs l)]] w fun e w' => e = .returned (.bool (decide (objOk k l))) ∧ Below w.heap.size w w' := by
  have HR := Lib.hid (fun W => read_any k l W)
  have L0 : Hid (Below w.heap.size w (w.alloc (.cells #[.int .i64 k, .string (bs l)] 43))) := (Below.refl _ _).alloc (Nat.le_refl _) _
  generalize decide (objOk k l) = b at HR ⊢
  generalize bs l = sb at HR L0 ⊢
  go_enter Tryz.func70, Tryz.ntmps70
  go_wp2_with fail
  refine (HR.out _).mono ?_
  rintro e w2 ⟨v, t, pv, s, rfl, S2, o1, o2, -, L2⟩
  have L3 := Lib.hid (L0.out.trans (L2.mono L0.out.size))
  have L4 := Lib.hid (L3.out.alloc L3.out.size (.cells (arr 35 (sv v t pv s)) 150))
  clear S2 L2 L3 L0 HR
  go_wp2_with (refine wpList_store_blk rfl 150 (.tmp 3) (.tmp 8) rfl w2.heap.size 35 (sv v t pv s) sv0 rfl rfl 150 (Blk.newAt _ (heap_alloc_new _ _) rfl) szSaid (fun i _ => sv_one _ o1 _ _ o2 _ i) ?_)
  rw [World.setRow_alloc_new]
  generalize w2.alloc (.cells (arr 35 (sv v t pv s)) 150) = w3 at L4 ⊢
  go_wp2
  go_ret
  exact ⟨rfl, L4.out⟩
end Go.Proofs.YtnmjcpoobabjgaaGreatDoor
/- The writer's calls with one part. -/
namespace Go.Proofs.YtnmjcpoobabjgaaGreatDoor
open Go.RowKit
theorem num_call {K : Nat → Prop} {w : World} {h : Nat} {l : List UInt8} (hw : Wr K w h l) (n : Int) (b : Nat) (hb : b = w.heap.size) (hl : l.length ≤ 1099511627776) :
    Calls Tryz.prog 26 #[.pointer (some ⟨h, 0, none⟩), .slice (some ⟨b, 0, none⟩) 1 1] (w.alloc (.cells #[.int .i64 n] 3)) fun e w' => e = .returned (.tuple #[]) ∧ Wr K w' h (l ++ dg (clamp n)) ∧ Keep K w w' := by
  subst hb
  refine (wnum1_any n w.heap.size (hw.alloc _) (cell_of_one (heap_alloc_new _ _)) (by have := hw.lt; omega) hl).mono ?_
  rintro e w' ⟨h1, h2, h3⟩
  exact ⟨h1, h2, ((Keep.refl K w).alloc _).trans h3⟩
theorem text_call {K : Nat → Prop} {w : World} {h : Nat} {l : List UInt8} (hw : Wr K w h l) (s : List UInt8) (b : Nat) (hb : b = w.heap.size) (hl : l.length + s.length ≤ 1099511627770) :
    Calls Tryz.prog 28 #[.pointer (some ⟨h, 0, none⟩), .slice (some ⟨b, 0, none⟩) 1 1] (w.alloc (.cells #[.string (bs s)] 9)) fun e w' => e = .returned (.tuple #[]) ∧ Wr K w' h (l ++ tx s) ∧ Keep K w w' := by
  subst hb
  refine (wtext_any s w.heap.size (hw.alloc _) (cell_of_one (heap_alloc_new _ _)) hl).mono ?_
  rintro e w' ⟨h1, h2, h3⟩
  exact ⟨h1, h2, ((Keep.refl K w).alloc _).trans h3⟩
theorem raw_call {K : Nat → Prop} {w : World} {h : Nat} {l : List UInt8} (hw : Wr K w h l) (s : List UInt8) (b : Nat) (hb : b = w.heap.size) (hl : l.length + s.length ≤ 1099511627770) :
    Calls Tryz.prog 25 #[.pointer (some ⟨h, 0, none⟩), .slice (some ⟨b, 0, none⟩) 1 1] (w.alloc (.cells #[.string (bs s)] 9)) fun e w' => e = .returned (.tuple #[]) ∧ Wr K w' h (l ++ s) ∧ Keep K w w' := by
  subst hb
  refine (wraw_any s w.heap.size (hw.alloc _) (cell_of_one (heap_alloc_new _ _)) (by omega)).mono ?_
  rintro e w' ⟨h1, h2, h3⟩
  exact ⟨h1, h2, ((Keep.refl K w).alloc _).trans h3⟩
end Go.Proofs.YtnmjcpoobabjgaaGreatDoor
/- An object's frame. -/
namespace Go.Proofs.YtnmjcpoobabjgaaGreatDoor
open Go.RowKit Classical
def lt (k : Int) : UInt8 := if k = 1 then 98 else if k = 2 then 116 else 99
def fb (k : Int) (l : List UInt8) : List UInt8 := lt k :: tx l
set_option maxHeartbeats 2000000 in
set_option maxRecDepth 100000 in
theorem frame_any (k : Int) (l : List UInt8) (w : World) :
    Calls Tryz.prog 72 #[.agg #[.int .i64 k, .string (bs l)]] w fun e w' => (objOk k l → e = .returned (.tuple #[.string (bs (fb k l)), .int .i64 0])) ∧ (¬ objOk k l → e = .returned (.tuple #[.string ⟨#[]⟩, .int .i64 1])) ∧ Below w.heap.size w w' := by
  have HR := Lib.hid (fun W => right_any k l W)
  have L0 : Hid (Below w.heap.size w (w.alloc (.cells #[.int .i64 k, .string (bs l)] 43))) := (Below.refl _ _).alloc (Nat.le_refl _) _
  by_cases ho : objOk k l
  · rw [decide_eq_true ho] at HR
    have hl := ho.1
    have hk : k = 1 ∨ k = 2 ∨ k = 3 := by rcases ho.2 with h | h | h; exact Or.inl h; exact Or.inr (Or.inl h.1); exact Or.inr (Or.inr h.1)
    have HO := Lib.hid ho
    have HL := Lib.hid hl
    clear ho hl
    rcases hk with rfl | rfl | rfl
    · go_enter Tryz.func72, Tryz.ntmps72
      go_wp2_with fail
      refine (HR.out _).mono ?_
      rintro e w2 ⟨rfl, L2⟩
      have L3 := Lib.hid (L0.out.trans (L2.mono L0.out.size))
      have c0 : w2.cell? ⟨w.heap.size, 0, none⟩ = some (.int .i64 1) := by rw [L2.cell (by simp)]; exact cell_of_row _ _ _ _ _ _ (heap_alloc_new _ _)
      have c1 : w2.cell? ⟨w.heap.size, 1, none⟩ = some (.string (bs l)) := by rw [L2.cell (by simp)]; exact cell_of_row _ _ _ _ _ _ (heap_alloc_new _ _)
      have LT : Hid (w.heap.size < w2.heap.size) := block_lt_of_cell c0
      clear L2 L0 HR
      go_upto_region 5 with fail
      have W0 : Hid (Wr (· < w2.heap.size) (w2.alloc (.cells #[.slice none 0 0] 65)) w2.heap.size []) := Wr.new fun k h => h
      have K0 : Hid (Keep (· < w2.heap.size) w2 (w2.alloc (.cells #[.slice none 0 0] 65))) := (Keep.refl _ w2).alloc _
      change Code.wp _ _ _ _ (w2.alloc (.cells #[.slice none 0 0] 65))
      have HS : Hid (w2.heap.size + 1 = (w2.alloc (.cells #[.slice none 0 0] 65)).heap.size) := by show _ = _; simp
      go_wp2_with fail
      rw [show (⟨#[98, 116, 99]⟩ : ByteArray).extract 0 1 = bs [98] from rfl]
      refine (raw_call W0.out [98] _ HS.out (by decide)).mono ?_
      rintro e w3 ⟨rfl, g1, k1⟩
      have G1 := Lib.hid g1
      have K1 := Lib.hid (K0.out.trans k1)
      have c3 : w3.cell? ⟨w.heap.size, 1, none⟩ = some (.string (bs l)) := K1.out.cell LT.out c1
      clear g1 k1 W0 K0 HS c1 c0
      go_wp2_with fail
      refine (text_call G1.out l _ rfl (by have := HL.out; rw [List.nil_append, List.length_singleton]; omega)).mono ?_
      rintro e w4 ⟨rfl, g1, k1⟩
      have G2 := Lib.hid g1
      have K2 := Lib.hid (K1.out.trans k1)
      clear g1 k1 G1 K1 c3
      go_wp2_with fail
      refine (wstr_any G2.out).mono ?_
      rintro e w5 ⟨rfl, rfl⟩
      go_wp2
      go_ret2
      exact ⟨fun _ => rfl, fun h => absurd HO.out h, L3.out.trans ((K2.out.below (Nat.le_refl _)).mono L3.out.size)⟩
    · go_enter Tryz.func72, Tryz.ntmps72
      go_wp2_with fail
      refine (HR.out _).mono ?_
      rintro e w2 ⟨rfl, L2⟩
      have L3 := Lib.hid (L0.out.trans (L2.mono L0.out.size))
      have c0 : w2.cell? ⟨w.heap.size, 0, none⟩ = some (.int .i64 2) := by rw [L2.cell (by simp)]; exact cell_of_row _ _ _ _ _ _ (heap_alloc_new _ _)
      have c1 : w2.cell? ⟨w.heap.size, 1, none⟩ = some (.string (bs l)) := by rw [L2.cell (by simp)]; exact cell_of_row _ _ _ _ _ _ (heap_alloc_new _ _)
      have LT : Hid (w.heap.size < w2.heap.size) := block_lt_of_cell c0
      clear L2 L0 HR
      go_upto_region 5 with fail
      have W0 : Hid (Wr (· < w2.heap.size) (w2.alloc (.cells #[.slice none 0 0] 65)) w2.heap.size []) := Wr.new fun k h => h
      have K0 : Hid (Keep (· < w2.heap.size) w2 (w2.alloc (.cells #[.slice none 0 0] 65))) := (Keep.refl _ w2).alloc _
      change Code.wp _ _ _ _ (w2.alloc (.cells #[.slice none 0 0] 65))
      have HS : Hid (w2.heap.size + 1 = (w2.alloc (.cells #[.slice none 0 0] 65)).heap.size) := by show _ = _; simp
      go_wp2_with fail
      rw [show (⟨#[98, 116, 99]⟩ : ByteArray).extract 1 2 = bs [116] from rfl]
      refine (raw_call W0.out [116] _ HS.out (by decide)).mono ?_
      rintro e w3 ⟨rfl, g1, k1⟩
      have G1 := Lib.hid g1
      have K1 := Lib.hid (K0.out.trans k1)
      have c3 : w3.cell? ⟨w.heap.size, 1, none⟩ = some (.string (bs l)) := K1.out.cell LT.out c1
      clear g1 k1 W0 K0 HS c1 c0
      go_wp2_with fail
      refine (text_call G1.out l _ rfl (by have := HL.out; rw [List.nil_append, List.length_singleton]; omega)).mono ?_
      rintro e w4 ⟨rfl, g1, k1⟩
      have G2 := Lib.hid g1
      have K2 := Lib.hid (K1.out.trans k1)
      clear g1 k1 G1 K1 c3
      go_wp2_with fail
      refine (wstr_any G2.out).mono ?_
      rintro e w5 ⟨rfl, rfl⟩
      go_wp2
      go_ret2
      exact ⟨fun _ => rfl, fun h => absurd HO.out h, L3.out.trans ((K2.out.below (Nat.le_refl _)).mono L3.out.size)⟩
    · go_enter Tryz.func72, Tryz.ntmps72
      go_wp2_with fail
      refine (HR.out _).mono ?_
      rintro e w2 ⟨rfl, L2⟩
      have L3 := Lib.hid (L0.out.trans (L2.mono L0.out.size))
      have c0 : w2.cell? ⟨w.heap.size, 0, none⟩ = some (.int .i64 3) := by rw [L2.cell (by simp)]; exact cell_of_row _ _ _ _ _ _ (heap_alloc_new _ _)
      have c1 : w2.cell? ⟨w.heap.size, 1, none⟩ = some (.string (bs l)) := by rw [L2.cell (by simp)]; exact cell_of_row _ _ _ _ _ _ (heap_alloc_new _ _)
      have LT : Hid (w.heap.size < w2.heap.size) := block_lt_of_cell c0
      clear L2 L0 HR
      go_upto_region 5 with fail
      have W0 : Hid (Wr (· < w2.heap.size) (w2.alloc (.cells #[.slice none 0 0] 65)) w2.heap.size []) := Wr.new fun k h => h
      have K0 : Hid (Keep (· < w2.heap.size) w2 (w2.alloc (.cells #[.slice none 0 0] 65))) := (Keep.refl _ w2).alloc _
      change Code.wp _ _ _ _ (w2.alloc (.cells #[.slice none 0 0] 65))
      have HS : Hid (w2.heap.size + 1 = (w2.alloc (.cells #[.slice none 0 0] 65)).heap.size) := by show _ = _; simp
      go_wp2_with fail
      rw [show (⟨#[98, 116, 99]⟩ : ByteArray).extract 2 3 = bs [99] from rfl]
      refine (raw_call W0.out [99] _ HS.out (by decide)).mono ?_
      rintro e w3 ⟨rfl, g1, k1⟩
      have G1 := Lib.hid g1
      have K1 := Lib.hid (K0.out.trans k1)
      have c3 : w3.cell? ⟨w.heap.size, 1, none⟩ = some (.string (bs l)) := K1.out.cell LT.out c1
      clear g1 k1 W0 K0 HS c1 c0
      go_wp2_with fail
      refine (text_call G1.out l _ rfl (by have := HL.out; rw [List.nil_append, List.length_singleton]; omega)).mono ?_
      rintro e w4 ⟨rfl, g1, k1⟩
      have G2 := Lib.hid g1
      have K2 := Lib.hid (K1.out.trans k1)
      clear g1 k1 G1 K1 c3
      go_wp2_with fail
      refine (wstr_any G2.out).mono ?_
      rintro e w5 ⟨rfl, rfl⟩
      go_wp2
      go_ret2
      exact ⟨fun _ => rfl, fun h => absurd HO.out h, L3.out.trans ((K2.out.below (Nat.le_refl _)).mono L3.out.size)⟩
  · rw [decide_eq_false ho] at HR
    have NO := Lib.hid ho
    clear ho
    go_enter Tryz.func72, Tryz.ntmps72
    go_wp2_with fail
    refine (HR.out _).mono ?_
    rintro e w2 ⟨rfl, L2⟩
    have L3 := Lib.hid (L0.out.trans (L2.mono L0.out.size))
    clear L2 L0 HR
    go_wp2
    go_ret2
    exact ⟨fun h => absurd h NO.out, fun _ => rfl, L3.out⟩
end Go.Proofs.YtnmjcpoobabjgaaGreatDoor
