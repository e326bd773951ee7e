import Derived.Test.YtlbclfponongbaaO21
/- Blobs; what every right program answers. -/
namespace Go.Proofs.Ytlbclfponongbaa
open Go.RowKit Classical
set_option maxHeartbeats 1000000 in
set_option maxRecDepth 100000 in
theorem blobo_any (l : List UInt8) (w : World) (hl : l.length ≤ 281474976710656) :
    Calls Try.prog 7 #[.string (bs l)] w fun e w' => (l.length ≤ 4096 → e = .returned (.tuple #[.agg (arr 2 (ov 1 l)), .int .i64 0])) ∧ (4096 < l.length → e = .returned (.tuple #[.agg (arr 2 (ov 0 [])), .int .i64 1])) ∧ Below w.heap.size w w' := by
  have hz := bs_size l
  have HC := Lib.hid (fun W => clone_any (bs l) W (by rw [bs_size]; exact hl))
  have B0 : Blk (w.alloc (.cells (arr 2 (ov 0 [])) 24)) w.heap.size 24 2 (ov 0 []) := Blk.newAt _ (heap_alloc_new _ _) rfl
  have L0 : Hid (Below w.heap.size w (w.alloc (.cells (arr 2 (ov 0 [])) 24))) := (Below.refl _ _).alloc (Nat.le_refl _) _
  go_enter Try.func7, Try.ntmps7
  go_upto_region 1 with fail
  change Code.wp _ _ _ _ (w.alloc (.cells (arr 2 (ov 0 [])) 24))
  have BZ := Lib.hid B0
  clear B0
  generalize hzr : w.heap.size = zr at BZ ⊢
  have HZ := Lib.hid hzr
  clear hzr
  generalize w.alloc (.cells (arr 2 (ov 0 [])) 24) = w1 at L0 BZ ⊢
  by_cases h : 4096 < l.length
  · have t1 : (4096 : Int) < ((bs l).size : Int) := by omega
    have HL := Lib.hid h
    clear h
    generalize bs l = sb at t1 HC hz ⊢
    clear hz
    go_upto_region 2 with fail
    refine wp_region_lit ?_
    refine wpList_valS (v := ?_) (by kernel_rfl) ?_ ?_
    rotate_left 1
    · (go_simp; try with_reducible rfl)
    try simp only [Act.put, List.setIfInBounds_toArray, List.set_cons_zero, List.set_cons_succ]
    refine wpList_unitG (by kernel_rfl) (ex_store 24 (.tmp 2) (.tmp 7) rfl zr 0 2 (ov 0 []) rfl rfl (BZ.out.there 0 2 (by omega)) szObject (fun i _ => ov_one _ _ i)) ?_
    try simp only [Act.put, List.setIfInBounds_toArray, List.set_cons_zero, List.set_cons_succ]
    refine wpList_valS (v := ?_) (by kernel_rfl) ?_ ?_
    rotate_left 1
    · (go_simp; try with_reducible rfl)
    try simp only [Act.put, List.setIfInBounds_toArray, List.set_cons_zero, List.set_cons_succ]
    refine wpList_nil ?_
    have B3 := BZ.out.over (ov 0 [])
    have L3 : Hid (Below w.heap.size w (w1.setCells zr 0 (arr 2 (ov 0 [])).toList)) := ((keepAll L0.out).trans ((keep_setCells (b := zr) _ 0 w1).mono fun b hb _ => by have := HZ.out; omega)).below (Nat.le_refl _)
    clear BZ L0
    generalize w1.setCells zr 0 (arr 2 (ov 0 [])).toList = w3 at B3 L3 ⊢
    go_wp2
    exact bodyPost_ret (results_blk2 rfl _ _ zr 24 2 (ov 0 []) B3 _ rfl Try.underlying24 rfl szObject) rfl ⟨fun h => absurd h (by have := HL.out; omega), fun _ => rfl, L3.out⟩
  · have t1 : decide ((4096 : Int) < ((bs l).size : Int)) = false := by rw [hz]; simp; omega
    have HL := Lib.hid h
    clear h hz
    go_upto_region 3 with fail
    refine wp_region_lit ?_
    refine wpList_valS (v := ?_) (by kernel_rfl) ?_ ?_
    rotate_left 1
    · (go_simp; try with_reducible rfl)
    try simp only [Act.put, List.setIfInBounds_toArray, List.set_cons_zero, List.set_cons_succ]
    refine wpList_callG (by kernel_rfl) fun K hK => ?_
    go_simp
    refine (HC.out w1).mono ?_
    rintro e w2 ⟨rfl, L2⟩
    refine hK _ _ ?_
    clear hK K
    try simp only [Act.put, List.setIfInBounds_toArray, List.set_cons_zero, List.set_cons_succ]
    refine wpList_valS (v := ?_) (by kernel_rfl) ?_ ?_
    rotate_left 1
    · (go_simp; try with_reducible rfl)
    try simp only [Act.put, List.setIfInBounds_toArray, List.set_cons_zero, List.set_cons_succ]
    have BZ2 := BZ.out.below L2 BZ.out.lt
    refine wpList_unitG (by kernel_rfl) (ex_store 24 (.tmp 2) (.tmp 10) rfl zr 0 2 (ov 1 l) rfl rfl (BZ2.there 0 2 (by omega)) szObject (fun i _ => ov_one _ _ i)) ?_
    try simp only [Act.put, List.setIfInBounds_toArray, List.set_cons_zero, List.set_cons_succ]
    refine wpList_valS (v := ?_) (by kernel_rfl) ?_ ?_
    rotate_left 1
    · (go_simp; try with_reducible rfl)
    try simp only [Act.put, List.setIfInBounds_toArray, List.set_cons_zero, List.set_cons_succ]
    refine wpList_nil ?_
    have B3 := BZ2.over (ov 1 l)
    have L3 : Hid (Below w.heap.size w (w2.setCells zr 0 (arr 2 (ov 1 l)).toList)) := ((keepAll (L0.out.trans (L2.mono L0.out.size))).trans ((keep_setCells (b := zr) _ 0 w2).mono fun b hb _ => by have := HZ.out; omega)).below (Nat.le_refl _)
    clear BZ BZ2 L0 L2
    generalize w2.setCells zr 0 (arr 2 (ov 1 l)).toList = w3 at B3 L3 ⊢
    go_wp2
    exact bodyPost_ret (results_blk2 rfl _ _ zr 24 2 (ov 1 l) B3 _ rfl Try.underlying24 rfl szObject) rfl ⟨fun _ => rfl, fun h => absurd h HL.out, L3.out⟩
/- the tree of alive -/
def three (i : Nat) : UInt8 := if i = 0 then 3 else 0
def aE : Nat → Ent | 0 => ⟨[121], 1, fun _ => 0⟩ | _ => ⟨[120], 2, three⟩
def aG : Nat → Ent | 0 => ⟨[120], 2, three⟩ | _ => ⟨[121], 1, fun _ => 0⟩
theorem aPerm : PermE aE aG 2 := List.Perm.swap _ _ _
theorem aOk : entsOk aG 2 := by
  refine ⟨by decide, fun i hi => ?_, fun i hi => ?_⟩
  · have : i = 0 ∨ i = 1 := by omega
    rcases this with rfl | rfl
    · exact ⟨⟨by decide, by decide, (by intro b hb; simp [aG] at hb; subst hb; unfold nok; decide)⟩, Or.inr rfl⟩
    · exact ⟨⟨by decide, by decide, (by intro b hb; simp [aG] at hb; subst hb; unfold nok; decide)⟩, Or.inl rfl⟩
  · have : i = 0 := by omega
    subst this
    rfl
theorem aTree : IsTree (tb aG 2) aG 2 := ⟨aOk, rfl⟩
theorem aLen : (tb aG 2).length ≤ 4096 := by
  have := tb_le aG 2 fun i hi => (aOk.2.1 i hi).1.2.1
  omega
theorem aObj : objOk 2 (tb aG 2) := ⟨aLen, Or.inr (Or.inl ⟨rfl, _, _, aTree⟩)⟩
theorem aRow : (#[.string ⟨#[121]⟩, .int .i64 1, .int .u8 0, .int .u8 0, .int .u8 0, .int .u8 0, .int .u8 0, .int .u8 0, .int .u8 0, .int .u8 0, .int .u8 0, .int .u8 0, .int .u8 0, .int .u8 0, .int .u8 0, .int .u8 0, .int .u8 0, .int .u8 0, .int .u8 0, .int .u8 0, .int .u8 0, .int .u8 0, .int .u8 0, .int .u8 0, .int .u8 0, .int .u8 0, .int .u8 0, .int .u8 0, .int .u8 0, .int .u8 0, .int .u8 0, .int .u8 0, .int .u8 0, .int .u8 0, .string ⟨#[120]⟩, .int .i64 2, .int .u8 3, .int .u8 0, .int .u8 0, .int .u8 0, .int .u8 0, .int .u8 0, .int .u8 0, .int .u8 0, .int .u8 0, .int .u8 0, .int .u8 0, .int .u8 0, .int .u8 0, .int .u8 0, .int .u8 0, .int .u8 0, .int .u8 0, .int .u8 0, .int .u8 0, .int .u8 0, .int .u8 0, .int .u8 0, .int .u8 0, .int .u8 0, .int .u8 0, .int .u8 0, .int .u8 0, .int .u8 0, .int .u8 0, .int .u8 0, .int .u8 0, .int .u8 0] : Array Value) = arr 68 (ec aE) := rfl
theorem fb_ab : bs (fb 1 [97, 98]) = ⟨#[98, 2, 97, 98]⟩ := by
  unfold fb tx
  rw [show clamp (([97, 98] : List UInt8).length : Int) = 2 from rfl, dg_low (by omega)]
  rfl
theorem aKids {H : Nat → (Nat → UInt8) × Int} {m : Nat} (h : Kids 2 (tb aG 2) H m) : m = 2 ∧ (H 0).2 = 2 ∧ same32 (H 0).1 three := by
  obtain ⟨es, n, h1, h2, h3⟩ := (h.2 aObj).2.1 rfl
  obtain ⟨h4, h5⟩ := tree_one h1 aTree
  subst h4
  refine ⟨h2, ?_, ?_⟩
  · rw [h3 0 (by omega)]; exact (h5 0 (by omega)).2.1
  · rw [h3 0 (by omega)]; exact (h5 0 (by omega)).2.2
theorem bd_three (w : World) : (Instr.build 35 #[(0, .int .u8 3)]).run Try.prog w = .ok (.agg (arr 32 (bv three))) w := by kernel_rfl
theorem ex_three {o : Oper} {a : Act} {w : World} (ho : o.op = .build 35 #[(0, .const (.int .u8 3))]) : (execOp a.eval o).run Try.prog w = .ok (.value (.agg (arr 32 (bv three)))) w :=
  ex_build ho (vs := #[(0, .int .u8 3)]) (by simp [Act.eval]) (bd_three w)
theorem aRowIs (w : World) : Row (w.alloc (.cells (arr 68 (ec aE)) 37)) (.slice (some ⟨w.heap.size, 0, none⟩) 2 2) 34 (ec aE) 2 :=
  Or.inr ⟨w.heap.size, 0, 2, rfl, by decide, by decide, by simp, fun i hi => by rw [Nat.zero_add]; exact (Blk.newAt _ (heap_alloc_new _ _) rfl : Blk (w.alloc (.cells (arr 68 (ec aE)) 37)) w.heap.size 37 68 (ec aE)).cell i hi⟩
set_option maxHeartbeats 1000000 in
set_option maxRecDepth 100000 in
theorem alive_any (w : World) : Calls Try.prog 4 #[] w fun e w' => e = .returned (.bool true) ∧ Below w.heap.size w w' := by
  have A1 : Hid (∀ W, Calls Try.prog 7 #[.string ⟨#[97, 98]⟩] W fun e w' => e = .returned (.tuple #[.agg #[.int .i64 1, .string ⟨#[97, 98]⟩], .int .i64 0]) ∧ Below W.heap.size W w') := fun W => (blobo_any [97, 98] W (by decide)).mono fun e w' h => ⟨h.1 (by decide), h.2.2⟩
  have A2 : Hid (∀ W, Calls Try.prog 8 #[.agg #[.int .i64 1, .string ⟨#[97, 98]⟩]] W fun e w' => e = .returned (.tuple #[.string ⟨#[98, 2, 97, 98]⟩, .int .i64 0]) ∧ Below W.heap.size W w') := fun W => (frame_any 1 [97, 98] W).mono fun e w' h => ⟨by rw [h.1 ⟨by decide, Or.inl rfl⟩, fb_ab], h.2.2⟩
  obtain ⟨tbs, htbs⟩ : ∃ tbs, tbs = bs (tb aG 2) := ⟨_, rfl⟩
  have A3 : Hid (∀ W v, Row W v 34 (ec aE) 2 → Calls Try.prog 9 #[v] W fun e w' => e = .returned (.tuple #[.agg #[.int .i64 2, .string tbs], .int .i64 0]) ∧ Below W.heap.size W w') := fun W v h => (tree_any aE v 2 W h (fun i hi => (by have h2 : i = 0 ∨ i = 1 := (by omega); rcases h2 with rfl | rfl <;> decide))).mono fun e w' h => ⟨by rw [h.1 aG aPerm aOk, htbs]; rfl, h.2.2⟩
  have A4 : Hid (∀ W, Calls Try.prog 10 #[.agg #[.int .i64 2, .string tbs]] W fun e w' => ∃ b o cap f, e = .returned (.slice (some ⟨b, o, none⟩) 2 cap) ∧ At w' b o 33 (hv f 2) ∧ same32 f three ∧ Below W.heap.size W w') := fun W => by
    rw [htbs]
    refine (children_any 2 (tb aG 2) W).mono ?_
    rintro e w' ⟨v, H, m, rfl, hR, hK, hB⟩
    obtain ⟨rfl, k2, k3⟩ := aKids hK
    obtain ⟨ad, cap, rfl, ha⟩ := row_addr hR
    obtain ⟨b, o, rfl, hb, hc⟩ := ha (by omega)
    refine ⟨b, o, cap, (H 0).1, rfl, fun j hj => ?_, k3, hB⟩
    rw [hc j (by omega)]
    have := hc_at H 0 j hj
    rw [Nat.zero_mul, Nat.zero_add] at this
    rw [this, k2]
  clear htbs
  go_enter Try.func4, Try.ntmps4
  go_wp2_with fail
  refine (A1.out _).mono ?_
  rintro e w1 ⟨rfl, L1⟩
  have K1 := Lib.hid L1
  clear L1 A1
  go_wp2_with fail
  refine (A2.out _).mono ?_
  rintro e w2 ⟨rfl, L2⟩
  have K2 := Lib.hid ((K1.out.alloc K1.out.size (.cells #[.int .i64 1, .string ⟨#[97, 98]⟩] 24)).trans (L2.mono (Nat.le_trans K1.out.size (by simp))))
  clear L2 A2 K1
  go_wp2_with fail
  rw [aRow]
  refine (A3.out _ _ (aRowIs w2)).mono ?_
  rintro e w3 ⟨rfl, L3⟩
  have K3 := Lib.hid ((K2.out.alloc K2.out.size (.cells (arr 68 (ec aE)) 37)).trans (L3.mono (Nat.le_trans K2.out.size (by simp))))
  clear L3 A3 K2
  go_wp2_with fail
  refine (A4.out _).mono ?_
  rintro e w4 ⟨b, o, cap, f, rfl, hA, hf, L4⟩
  have K4 := Lib.hid ((K3.out.alloc K3.out.size (.cells #[.int .i64 2, .string tbs] 24)).trans (L4.mono (Nat.le_trans K3.out.size (by simp))))
  have HA := Lib.hid hA
  have hq := fun W => eqlChild f three 2 2 W
  rw [decide_eq_true (⟨hf, rfl⟩ : same32 f three ∧ (2 : Int) = 2)] at hq
  clear L4 K3 A4 hA hf
  go_upto_region 5 with fail
  refine wp_region_lit ?_
  refine wpList_valS (v := ?_) (by kernel_rfl) ?_ ?_
  rotate_left 1
  · (go_simp; try with_reducible rfl)
  try simp only [Act.put, List.setIfInBounds_toArray, List.set_cons_zero, List.set_cons_succ]
  refine wpList_valS (v := ?_) (by kernel_rfl) ?_ ?_
  rotate_left 1
  · (go_simp; try with_reducible rfl)
  try simp only [Act.put, List.setIfInBounds_toArray, List.set_cons_zero, List.set_cons_succ]
  refine wpList_valS (v := ?_) (by kernel_rfl) ?_ ?_
  rotate_left 1
  · (go_simp; try with_reducible rfl)
  try simp only [Act.put, List.setIfInBounds_toArray, List.set_cons_zero, List.set_cons_succ]
  refine wpList_valS (v := ?_) (by kernel_rfl) ?_ ?_
  rotate_left 1
  · (go_simp; try with_reducible rfl)
  try simp only [Act.put, List.setIfInBounds_toArray, List.set_cons_zero, List.set_cons_succ]
  refine wpList_valS (v := ?_) (by kernel_rfl) ?_ ?_
  rotate_left 1
  · (go_simp; try with_reducible rfl)
  try simp only [Act.put, List.setIfInBounds_toArray, List.set_cons_zero, List.set_cons_succ]
  refine wpList_valS (v := ?_) (by kernel_rfl) ?_ ?_
  rotate_left 1
  · (go_simp; try with_reducible rfl)
  try simp only [Act.put, List.setIfInBounds_toArray, List.set_cons_zero, List.set_cons_succ]
  refine wpList_valS (v := ?_) (by kernel_rfl) ?_ ?_
  rotate_left 1
  · (go_simp; try with_reducible rfl)
  try simp only [Act.put, List.setIfInBounds_toArray, List.set_cons_zero, List.set_cons_succ]
  refine wpList_valS (v := ?_) (by kernel_rfl) ?_ ?_
  rotate_left 1
  · (go_simp; try with_reducible rfl)
  try simp only [Act.put, List.setIfInBounds_toArray, List.set_cons_zero, List.set_cons_succ]
  refine wpList_valS (v := ?_) (by kernel_rfl) ?_ ?_
  rotate_left 1
  · (go_simp; try with_reducible rfl)
  try simp only [Act.put, List.setIfInBounds_toArray, List.set_cons_zero, List.set_cons_succ]
  refine wpList_valS (v := ?_) (by kernel_rfl) ?_ ?_
  rotate_left 1
  · (go_simp; try with_reducible rfl)
  try simp only [Act.put, List.setIfInBounds_toArray, List.set_cons_zero, List.set_cons_succ]
  refine wpList_valS (v := ?_) (by kernel_rfl) ?_ ?_
  rotate_left 1
  · (go_simp; try with_reducible rfl)
  try simp only [Act.put, List.setIfInBounds_toArray, List.set_cons_zero, List.set_cons_succ]
  refine wpList_valS (v := ?_) (by kernel_rfl) ?_ ?_
  rotate_left 1
  · (go_simp; try with_reducible rfl)
  try simp only [Act.put, List.setIfInBounds_toArray, List.set_cons_zero, List.set_cons_succ]
  refine wpList_valS (v := ?_) (by kernel_rfl) ?_ ?_
  rotate_left 1
  · (go_simp; try with_reducible rfl)
  try simp only [Act.put, List.setIfInBounds_toArray, List.set_cons_zero, List.set_cons_succ]
  refine wpList_valS (v := ?_) (by kernel_rfl) ?_ ?_
  rotate_left 1
  · (go_simp; try with_reducible rfl)
  try simp only [Act.put, List.setIfInBounds_toArray, List.set_cons_zero, List.set_cons_succ]
  refine wpList_valS (v := ?_) (by kernel_rfl) ?_ ?_
  rotate_left 1
  · (go_simp; try with_reducible rfl)
  try simp only [Act.put, List.setIfInBounds_toArray, List.set_cons_zero, List.set_cons_succ]
  refine wpList_valS (v := ?_) (by kernel_rfl) ?_ ?_
  rotate_left 1
  · (go_simp; try with_reducible rfl)
  try simp only [Act.put, List.setIfInBounds_toArray, List.set_cons_zero, List.set_cons_succ]
  refine wpList_valS (v := ?_) (by kernel_rfl) ?_ ?_
  rotate_left 1
  · (go_simp; try with_reducible rfl)
  try simp only [Act.put, List.setIfInBounds_toArray, List.set_cons_zero, List.set_cons_succ]
  refine wpList_valS (v := ?_) (by kernel_rfl) ?_ ?_
  rotate_left 1
  · (go_simp; try with_reducible rfl)
  try simp only [Act.put, List.setIfInBounds_toArray, List.set_cons_zero, List.set_cons_succ]
  refine wpList_valS (v := ?_) (by kernel_rfl) ?_ ?_
  rotate_left 1
  · (go_simp; try with_reducible rfl)
  try simp only [Act.put, List.setIfInBounds_toArray, List.set_cons_zero, List.set_cons_succ]
  refine wpList_valS (v := ?_) (by kernel_rfl) ?_ ?_
  rotate_left 1
  · (go_simp; try with_reducible rfl)
  try simp only [Act.put, List.setIfInBounds_toArray, List.set_cons_zero, List.set_cons_succ]
  refine wpList_valS (v := ?_) (by kernel_rfl) ?_ ?_
  rotate_left 1
  · (go_simp; try with_reducible rfl)
  try simp only [Act.put, List.setIfInBounds_toArray, List.set_cons_zero, List.set_cons_succ]
  refine wpList_valS (v := ?_) (by kernel_rfl) ?_ ?_
  rotate_left 1
  · (go_simp; try with_reducible rfl)
  try simp only [Act.put, List.setIfInBounds_toArray, List.set_cons_zero, List.set_cons_succ]
  refine wpList_valG (by kernel_rfl) (ex_load 41 (.tmp 48) rfl b o 33 (hv f 2) rfl Try.underlying41 rfl szChild HA.out) ?_
  try simp only [Act.put, List.setIfInBounds_toArray, List.set_cons_zero, List.set_cons_succ]
  refine wpList_valG (by kernel_rfl) (ex_three rfl) ?_
  try simp only [Act.put, List.setIfInBounds_toArray, List.set_cons_zero, List.set_cons_succ]
  refine wpList_valG (by kernel_rfl) (ex_child (.tmp 50) (.const (.int .i64 2)) rfl 2 three rfl rfl) ?_
  try simp only [Act.put, List.setIfInBounds_toArray, List.set_cons_zero, List.set_cons_succ]
  refine wpList_valS (v := ?_) (by kernel_rfl) ?_ ?_
  rotate_left 1
  · (go_simp; try with_reducible rfl)
  try simp only [Act.put, List.setIfInBounds_toArray, List.set_cons_zero, List.set_cons_succ]
  refine wpList_valS (v := ?_) (by kernel_rfl) ?_ ?_
  rotate_left 1
  · (go_simp; try with_reducible rfl)
  try simp only [Act.put, List.setIfInBounds_toArray, List.set_cons_zero, List.set_cons_succ]
  refine wpList_valS (v := ?_) (by kernel_rfl) ?_ ?_
  rotate_left 1
  · (go_simp; try with_reducible rfl)
  try simp only [Act.put, List.setIfInBounds_toArray, List.set_cons_zero, List.set_cons_succ]
  refine wpList_nil ?_
  go_wp2
  go_ret
  exact ⟨rfl, K4.out⟩
end Go.Proofs.Ytlbclfponongbaa
