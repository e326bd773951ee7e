import Derived.Test.YtnmjcpoobabjgaaGreatDoorGJm
import Derived.Test.YtnmjcpoobabjgaaGreatDoorHH
set_option linter.unusedVariables false
set_option linter.unusedSimpArgs false
/- Is an opened pack the document's? -/
namespace Go.Proofs.YtnmjcpoobabjgaaGreatDoor
set_option maxRecDepth 100000
open Go.RowKit Classical
/- where same stands: the pack, and the document's one in block M -/
structure SS (w0 : World) (g M : Nat) (l : List Pt) (S : List Nat) (os : List (Int × List UInt8)) (vl vs vo vd : Value) (W : World) : Prop where
 b0 : Below w0.heap.size w0 W
 pk : PackAt W g l S os
 rl : RowP W vl l
 rs : RowN W vs S
 ro : RowO W vo os
 rd : RowD W vd (os.map oid)
 bm : W.heap[M]? = some (.cells #[vl, vs, vo, vd] 32 (0, 0))
theorem SS.step {w0 : World} {g M : Nat} {l : List Pt} {S : List Nat} {os : List (Int × List UInt8)} {vl vs vo vd : Value} {W W' : World} (h : SS w0 g M l S os vl vs vo vd W) (hb : Below W.heap.size W W') : SS w0 g M l S os vl vs vo vd W' :=
 ⟨h.b0.trans (hb.mono h.b0.size), h.pk.below hb, RowG.below h.rl hb, RowG.below h.rs hb, RowG.below h.ro hb, RowG.below h.rd hb, by rw [hb.block _ (lt_of_block h.bm)]; exact h.bm⟩
theorem SS.s1 {w0 : World} {g M : Nat} {l : List Pt} {S : List Nat} {os : List (Int × List UInt8)} {vl vs vo vd : Value} {W : World} (h : SS w0 g M l S os vl vs vo vd W) : W.cell? ⟨M, 0, none⟩ = some vl ∧ SS w0 g M l S os vl vs vo vd W := ⟨cell_of_row _ _ 0 _ _ _ h.bm, h⟩
/- with an object in block z, and the k-th places of the rows -/
structure SF (w0 : World) (g M z : Nat) (l : List Pt) (S : List Nat) (os : List (Int × List UInt8)) (vl vs vo vd : Value) (bo oo k : Nat) (xk : Int) (xs : ByteArray) (b2 o2 sk : Nat) (b3 o3 : Nat) (D : Nat → UInt8) (W : World) : Prop where
 ss : SS w0 g M l S os vl vs vo vd W
 bz : W.heap[z]? = some (.cells #[.int .i64 xk, .string xs] 43 (0, 0))
 p0 : W.cell? ⟨bo, oo + k * 2, none⟩ = some (.int .i64 xk)
 p1 : W.cell? ⟨bo, oo + k * 2 + 1, none⟩ = some (.string xs)
 s0 : W.cell? ⟨b2, o2 + k, none⟩ = some (.int .i64 (sk : Int))
 ad : At W b3 (o3 + k * 32) 32 (bv D)
theorem SF.step {w0 : World} {g M z : Nat} {l : List Pt} {S : List Nat} {os : List (Int × List UInt8)} {vl vs vo vd : Value} {bo oo k : Nat} {xk : Int} {xs : ByteArray} {b2 o2 sk b3 o3 : Nat} {D : Nat → UInt8} {W W' : World} (h : SF w0 g M z l S os vl vs vo vd bo oo k xk xs b2 o2 sk b3 o3 D W) (hb : Below W.heap.size W W') : SF w0 g M z l S os vl vs vo vd bo oo k xk xs b2 o2 sk b3 o3 D W' :=
 ⟨h.ss.step hb, by rw [hb.block _ (lt_of_block h.bz)]; exact h.bz, by rw [hb.cell (block_lt_of_cell h.p0)]; exact h.p0, by rw [hb.cell (block_lt_of_cell h.p1)]; exact h.p1, by rw [hb.cell (block_lt_of_cell h.s0)]; exact h.s0, h.ad.below hb (h.ad.lt (by decide))⟩
def SFc (w0 : World) (g M z : Nat) (l : List Pt) (S : List Nat) (os : List (Int × List UInt8)) (vl vs vo vd : Value) (bo oo k : Nat) (xk : Int) (xs : ByteArray) (b2 o2 sk : Nat) (b3 o3 : Nat) (D : Nat → UInt8) (W : World) : Prop := SF w0 g M z l S os vl vs vo vd bo oo k xk xs b2 o2 sk b3 o3 D W
theorem SF.all {w0 : World} {g M z : Nat} {l : List Pt} {S : List Nat} {os : List (Int × List UInt8)} {vl vs vo vd : Value} {bo oo k : Nat} {xk : Int} {xs : ByteArray} {b2 o2 sk b3 o3 : Nat} {D : Nat → UInt8} {W : World} (h : SF w0 g M z l S os vl vs vo vd bo oo k xk xs b2 o2 sk b3 o3 D W) :
  W.cell? ⟨M, 1, none⟩ = some vs ∧ W.cell? ⟨M, 2, none⟩ = some vo ∧ W.cell? ⟨M, 3, none⟩ = some vd ∧ W.cell? ⟨z, 0, none⟩ = some (.int .i64 xk) ∧ W.cell? ⟨z, 1, none⟩ = some (.string xs) ∧ W.cell? ⟨bo, oo + k * 2, none⟩ = some (.int .i64 xk) ∧ W.cell? ⟨bo, oo + k * 2 + 1, none⟩ = some (.string xs) ∧ W.cell? ⟨b2, o2 + k, none⟩ = some (.int .i64 (sk : Int)) ∧ SF w0 g M z l S os vl vs vo vd bo oo k xk xs b2 o2 sk b3 o3 D W :=
 ⟨cell_of_row _ _ 1 _ _ _ h.ss.bm, cell_of_row _ _ 2 _ _ _ h.ss.bm, cell_of_row _ _ 3 _ _ _ h.ss.bm, cell_of_row _ _ 0 _ _ _ h.bz, cell_of_row _ _ 1 _ _ _ h.bz, h.p0, h.p1, h.s0, h⟩
set_option maxHeartbeats 8000000 in
theorem psame_any {w : World} {g : Nat} {l : List Pt} {S : List Nat} {os : List (Int × List UInt8)} {vl vs vo vd : Value} (h : PackAt w g l S os) (rl : RowP w vl l) (rs : RowN w vs S) (ro : RowO w vo os) (rd : RowD w vd (os.map oid)) (h1 : os.length = l.length) (h2 : S.length = l.length) (hd : Dist (os.map oid)) (hn : l.length ≤ 200) :
  Calls Tryz.prog 20 #[.pointer (some ⟨g, 0, none⟩), .agg #[vl, vs, vo, vd]] w fun e w' => e = .returned (.bool true) ∧ Below w.heap.size w w' := by
 have hA : Below w.heap.size w (w.alloc (.cells #[vl, vs, vo, vd] 32)) := (Below.refl _ _).alloc (Nat.le_refl _) _
 have S0 : SS w g w.heap.size l S os vl vs vo vd (w.alloc (.cells #[vl, vs, vo, vd] 32)) := ⟨hA, h.below hA, RowG.below rl hA, RowG.below rs hA, RowG.below ro hA, RowG.below rd hA, heap_alloc_new _ _⟩
 have HS0 := Lib.hid S0
 obtain ⟨n, hn1⟩ : ∃ n, n = l.length := ⟨_, rfl⟩
 obtain ⟨al, cl, rfl⟩ : ∃ ad cap, vl = .slice ad n cap := by
  obtain ⟨x1, x2, x3⟩ := RowG.len rl
  exact ⟨_, _, by rw [hn1]; exact x3⟩
 obtain ⟨as_, cs, rfl⟩ : ∃ ad cap, vs = .slice ad n cap := by
  obtain ⟨x1, x2, x3⟩ := RowG.len rs
  exact ⟨_, _, by rw [hn1, ← h2]; exact x3⟩
 obtain ⟨ao, co, rfl⟩ : ∃ ad cap, vo = .slice ad n cap := by
  obtain ⟨x1, x2, x3⟩ := RowG.len ro
  exact ⟨_, _, by rw [hn1, ← h1]; exact x3⟩
 obtain ⟨ad, cd, rfl⟩ : ∃ ad cap, vd = .slice ad n cap := by
  obtain ⟨x1, x2, x3⟩ := RowG.len rd
  rw [List.length_map] at x3
  exact ⟨_, _, by rw [hn1, ← h1]; exact x3⟩
 have CL : Hid (∀ W, PackAt W g l S os → Calls Tryz.prog 15 #[.pointer (some ⟨g, 0, none⟩)] W fun e w' => e = .returned (.int .i64 (n : Int)) ∧ W = w') := fun W h => by
  have := plen_any h
  rw [← hn1] at this
  exact this
 have CP : Hid (∀ W, PackAt W g l S os → _) := Lib.hid (fun W h => pparts_any (w := W) (g := g) h (by omega))
 have CS : Hid (∀ W u v, RowP W u l → RowP W v l → _) := Lib.hid (fun W u v h k => same9_any (w := W) (u := u) (v := v) h k (by omega))
 have CB0 : Hid (∀ W (i : Int), PackAt W g l S os → (i < 0 ∨ (n : Int) ≤ i) → Calls Tryz.prog 14 #[.pointer (some ⟨g, 0, none⟩), .int .i64 i] W fun e w' => e = .returned (.tuple #[.agg #[.int .i64 0, .string ⟨#[]⟩], .bool false]) ∧ Below W.heap.size W w') := fun W i h hi => by
  have := pobject_any i h h1
  rw [show obv os l.length i = .tuple #[.agg #[.int .i64 0, .string ⟨#[]⟩], .bool false] by unfold obv; rw [if_neg (by omega)]] at this
  exact this
 have CI0 : Hid (∀ W (i : Int), PackAt W g l S os → (i < 0 ∨ (n : Int) ≤ i) → Calls Tryz.prog 17 #[.pointer (some ⟨g, 0, none⟩), .int .i64 i] W fun e w' => e = .returned (.agg (arr 32 (bv fun _ => 0))) ∧ Below W.heap.size W w') := fun W i h hi => by
  have := pid_any i h h1
  rw [show idv (os.map oid) l.length i = fun _ => 0 by unfold idv; rw [if_neg (by omega)]; rfl] at this
  exact this
 have CQ0 : Hid (∀ W (i : Int), PackAt W g l S os → (i < 0 ∨ (n : Int) ≤ i) → Calls Tryz.prog 18 #[.pointer (some ⟨g, 0, none⟩), .int .i64 i] W fun e w' => e = .returned (.int .i64 0) ∧ W = w') := fun W i h hi => by
  have := pspot_any i h h2
  rw [show spv S l.length i = 0 by unfold spv; rw [if_neg (by omega)]] at this
  exact this
 have CB1 : Hid (∀ W (k : Nat), PackAt W g l S os → k < n → Calls Tryz.prog 14 #[.pointer (some ⟨g, 0, none⟩), .int .i64 (k : Int)] W fun e w' => e = .returned (.tuple #[.agg #[.int .i64 (os.getD k zo).1, .string (bs (os.getD k zo).2)], .bool true]) ∧ Below W.heap.size W w') := fun W k h hk => by
  have := pobject_any (k : Int) h h1
  rw [show obv os l.length (k : Int) = .tuple #[.agg #[.int .i64 (os.getD k zo).1, .string (bs (os.getD k zo).2)], .bool true] by unfold obv; rw [if_pos (by omega)]; rfl] at this
  exact this
 have CI1 : Hid (∀ W (k : Nat), PackAt W g l S os → k < n → Calls Tryz.prog 17 #[.pointer (some ⟨g, 0, none⟩), .int .i64 (k : Int)] W fun e w' => e = .returned (.agg (arr 32 (bv ((os.map oid).getD k zf)))) ∧ Below W.heap.size W w') := fun W k h hk => by
  have := pid_any (k : Int) h h1
  rw [show idv (os.map oid) l.length (k : Int) = (os.map oid).getD k zf by unfold idv; rw [if_pos (by omega)]; rfl] at this
  exact this
 have CQ1 : Hid (∀ W (k : Nat), PackAt W g l S os → k < n → Calls Tryz.prog 18 #[.pointer (some ⟨g, 0, none⟩), .int .i64 (k : Int)] W fun e w' => e = .returned (.int .i64 (S.getD k 0 : Nat)) ∧ W = w') := fun W k h hk => by
  have := pspot_any (k : Int) h h2
  rw [show spv S l.length (k : Int) = (S.getD k 0 : Nat) by unfold spv; rw [if_pos (by omega)]; rfl] at this
  exact this
 have CF1 : Hid (∀ W (k : Nat), PackAt W g l S os → k < n → Calls Tryz.prog 19 #[.pointer (some ⟨g, 0, none⟩), .agg (arr 32 (bv ((os.map oid).getD k zf)))] W fun e w' => e = .returned (.int .i64 (k : Int)) ∧ Below W.heap.size W w') := fun W k h hk => by
  have := pfind_at ((os.map oid).getD k zf) h
  rw [show fnd ((os.map oid).getD k zf) (os.map oid) = (k : Int) by unfold fnd; rw [idx_at hd (by rw [List.length_map]; omega), Nat.zero_add]] at this
  exact this
 have HN200 : Hid (n ≤ 200) := by show _ ≤ _; omega
 have HL1 : Hid (os.length = n ∧ S.length = n) := ⟨by omega, by omega⟩
 have hn2 : n ≤ 200 := HN200.out
 clear h rl rs ro rd h1 h2 hd hn hA S0 hn1
 go_enter Tryz.func20, Tryz.ntmps20
 go_upto_region 1 with fail
 change Code.wp _ _ _ _ (w.alloc (.cells #[.slice al n cl, .slice as_ n cs, .slice ao n co, .slice ad n cd] 32))
 generalize w.alloc (.cells #[.slice al n cl, .slice as_ n cs, .slice ao n co, .slice ad n cd] 32) = W0 at HS0 ⊢
 have SD := (HS0.out.step (Below.refl _ _).drew).s1
 refine wp_region_noPanic ?_
 refine wp_region_held_drew (S := (fun W => W.cell? ⟨w.heap.size, 0, none⟩ = some (.slice al n cl) ∧ SS w g w.heap.size l S os (.slice al n cl) (.slice as_ n cs) (.slice ao n co) (.slice ad n cd) W)) (by kernel_rfl) SD (fun hHeld => ?_)
 refine wpAnyH_take (i := 0) (oi := ⟨some 8, .move (.tmp 0), 38, "law.go:22", #[], none⟩) (v := ?_) rfl (by kernel_rfl) (by kernel_rfl) (by kernel_rfl) (fun _ _ _ h => h) (Or.inl ⟨by kernel_rfl, ?_⟩) (by assumption) ?_
 rotate_left 1
 ·(intro wS hSw; (try dsimp only at hSw); go_simp; try with_reducible rfl)
 try simp only [Act.put, tA, tZ, tS]
 refine wpAnyH_take (i := 2) (oi := ⟨some 10, .fieldAddr 32 (.tmp 3) 0, 0, "law.go:22", #[], none⟩) (v := ?_) rfl (by kernel_rfl) (by kernel_rfl) (by kernel_rfl) (fun _ _ _ h => h) (Or.inl ⟨by kernel_rfl, ?_⟩) (by assumption) ?_
 rotate_left 1
 ·(intro wS hSw; (try dsimp only at hSw); go_simp; try with_reducible rfl)
 try simp only [Act.put, tA, tZ, tS]
 refine wpAnyH_take (i := 3) (oi := ⟨some 11, .load 22 (.tmp 10), 22, "law.go:22", #[⟨2, .data⟩], none⟩) (v := ?_) rfl (by kernel_rfl) (by kernel_rfl) (by kernel_rfl) (fun _ _ _ h => h) (Or.inl ⟨by kernel_rfl, ?_⟩) (by assumption) ?_
 rotate_left 1
 ·(intro wS hSw; (try dsimp only at hSw); go_simp; try with_reducible rfl)
 try simp only [Act.put, tA, tZ, tS]
 refine wpAnyH_take (i := 4) (oi := ⟨some 12, .call { callee := .builtin .len, args := #[.tmp 11], argTypes := #[22] }, 3, "law.go:22", #[⟨3, .data⟩], none⟩) (v := ?_) rfl (by kernel_rfl) (by kernel_rfl) (by kernel_rfl) (fun _ _ _ h => h) (Or.inl ⟨by kernel_rfl, ?_⟩) (by assumption) ?_
 rotate_left 1
 ·(intro wS hSw; (try dsimp only at hSw); go_simp; try with_reducible rfl)
 try simp only [Act.put, tA, tZ, tS]
 refine wpAnyH_ready (rs := [1]) (by kernel_rfl) (by simp) ?_
 refine AllReadyH.cons (o := ⟨some 9, .call { callee := .value (Operand.func 15), args := #[.tmp 8], argTypes := #[38] }, 3, "law.go:22", #[⟨0, .data⟩], none⟩) rfl (fun K hK => ?_) AllReadyH.nil
 go_simp
 refine (CL.out _ SD.2.pk).mono ?_
 rintro e w1 ⟨rfl, rfl⟩
 have Sa1 := SD
 refine hK.out _ _ Sa1 (fun hHeld1 => ?_)
 clear hK K
 try simp only [Act.put, tA, tZ, tS]
 refine wpAnyH_take (i := 5) (oi := ⟨some 13, .binOp BinOp.neq 3 (.tmp 9) (.tmp 12) 3, 4, "law.go:22", #[⟨1, .data⟩, ⟨4, .data⟩], none⟩) (v := ?_) rfl (by kernel_rfl) (by kernel_rfl) (by kernel_rfl) (fun _ _ _ h => h) (Or.inl ⟨by kernel_rfl, ?_⟩) (by assumption) ?_
 rotate_left 1
 ·(intro wS hSw; (try dsimp only at hSw); go_simp; try with_reducible rfl)
 try simp only [Act.put, tA, tZ, tS]
 refine wpAnyH_take (i := 6) (oi := ⟨some 14, .move (.tmp 13), 4, "law.go:22", #[⟨5, .data⟩, ⟨1, .chain⟩], none⟩) (v := ?_) rfl (by kernel_rfl) (by kernel_rfl) (by kernel_rfl) (fun _ _ _ h => h) (Or.inl ⟨by kernel_rfl, ?_⟩) (by assumption) ?_
 rotate_left 1
 ·(intro wS hSw; (try dsimp only at hSw); go_simp; try with_reducible rfl)
 try simp only [Act.put, tA, tZ, tS]
 refine wpAnyH_take (i := 7) (oi := ⟨some 15, .move (.tmp 0), 38, "law.go:22", #[⟨6, .guard⟩], some (6, false)⟩) (v := ?_) rfl (by kernel_rfl) (by kernel_rfl) (by kernel_rfl) (fun _ _ _ h => h) (Or.inl ⟨by kernel_rfl, ?_⟩) (by assumption) ?_
 rotate_left 1
 ·(intro wS hSw; (try dsimp only at hSw); go_simp; try with_reducible rfl)
 try simp only [Act.put, tA, tZ, tS]
 refine wpAnyH_take (i := 9) (oi := ⟨some 17, .fieldAddr 32 (.tmp 3) 0, 0, "law.go:22", #[⟨6, .guard⟩], some (6, false)⟩) (v := ?_) rfl (by kernel_rfl) (by kernel_rfl) (by kernel_rfl) (fun _ _ _ h => h) (Or.inl ⟨by kernel_rfl, ?_⟩) (by assumption) ?_
 rotate_left 1
 ·(intro wS hSw; (try dsimp only at hSw); go_simp; try with_reducible rfl)
 try simp only [Act.put, tA, tZ, tS]
 refine wpAnyH_take (i := 10) (oi := ⟨some 18, .load 22 (.tmp 17), 22, "law.go:22", #[⟨9, .data⟩, ⟨6, .guard⟩], some (6, false)⟩) (v := ?_) rfl (by kernel_rfl) (by kernel_rfl) (by kernel_rfl) (fun _ _ _ h => h) (Or.inl ⟨by kernel_rfl, ?_⟩) (by assumption) ?_
 rotate_left 1
 ·(intro wS hSw; (try dsimp only at hSw); go_simp; try with_reducible rfl)
 try simp only [Act.put, tA, tZ, tS]
 refine wpAnyH_ready (rs := [8]) (by kernel_rfl) (by simp) ?_
 refine AllReadyH.cons (o := ⟨some 16, .call { callee := .value (Operand.func 16), args := #[.tmp 15], argTypes := #[38] }, 22, "law.go:22", #[⟨7, .data⟩, ⟨6, .chain⟩, ⟨6, .guard⟩], some (6, false)⟩) rfl (fun K hK => ?_) AllReadyH.nil
 go_simp
 refine (CP.out _ SD.2.pk).mono ?_
 rintro e w2 ⟨v2, rfl, O2, B2⟩
 have Sa8 := (SD.2.step B2).s1
 refine hK.out _ _ Sa8 (fun hHeld8 => ?_)
 clear hK K
 try simp only [Act.put, tA, tZ, tS]
 have R2 := O2.row
 refine wpAnyH_ready (rs := [11]) (by kernel_rfl) (by simp) ?_
 refine AllReadyH.cons (o := ⟨some 19, .call { callee := .value (Operand.func 22), args := #[.tmp 16, .tmp 18], argTypes := #[22, 22] }, 4, "law.go:22", #[⟨8, .data⟩, ⟨10, .data⟩, ⟨8, .chain⟩, ⟨6, .guard⟩], some (6, false)⟩) rfl (fun K hK => ?_) AllReadyH.nil
 go_simp
 refine (CS.out _ _ _ R2 Sa8.2.rl).mono ?_
 rintro e w3 ⟨rfl, B3⟩
 have Sa11 := (Sa8.2.step B3).s1
 refine hK.out _ _ Sa11 (fun hHeld11 => ?_)
 clear hK K
 try simp only [Act.put, tA, tZ, tS]
 refine wpAnyH_take (i := 12) (oi := ⟨some 20, .unOp UnOp.not 4 (.tmp 19), 4, "law.go:22", #[⟨11, .data⟩, ⟨6, .guard⟩], some (6, false)⟩) (v := ?_) rfl (by kernel_rfl) (by kernel_rfl) (by kernel_rfl) (fun _ _ _ h => h) (Or.inl ⟨by kernel_rfl, ?_⟩) (by assumption) ?_
 rotate_left 1
 ·(intro wS hSw; (try dsimp only at hSw); go_simp; try with_reducible rfl)
 try simp only [Act.put, tA, tZ, tS]
 refine wpAnyH_take (i := 13) (oi := ⟨some 21, .pick (.tmp 14) (Operand.const (Value.bool true)) (.tmp 20), 4, "law.go:22", #[⟨6, .data⟩, ⟨12, .data⟩], none⟩) (v := ?_) rfl (by kernel_rfl) (by kernel_rfl) (by kernel_rfl) (fun _ _ _ h => h) (Or.inl ⟨by kernel_rfl, ?_⟩) (by assumption) ?_
 rotate_left 1
 ·(intro wS hSw; (try dsimp only at hSw); go_simp; try with_reducible rfl)
 try simp only [Act.put, tA, tZ, tS]
 refine wpAnyH_done (by kernel_rfl) ?_ _
 refine NoPanic.normal ?_
 have HS3 := Lib.hid Sa11.2
 clear SD Sa1 Sa8 Sa11 R2 O2 B2 B3 HS0 hHeld hHeld1 hHeld8 hHeld11 CL CP CS
 go_wp2
 go_loopw [5] (fun t wr => ∃ i : Int, t = .int .i64 i ∧ -1 ≤ i ∧ i ≤ (n : Int) + 1 ∧ Hid (SS w g w.heap.size l S os (.slice al n cl) (.slice as_ n cs) (.slice ao n co) (.slice ad n cd) wr)) (fun t _ => ((n : Int) + 1 - intOf t).toNat)
 case atStart => exact ⟨-1, rfl, by omega, by omega, HS3⟩
 case round =>
  obtain ⟨i, rfl, hi1, hi2, HS⟩ := hrel
  clear HS3
  have m0 := cell_of_row _ _ 0 _ _ _ HS.out.bm
  by_cases hle : i ≤ (n : Int)
  ·have w5 : IntKind.i64.wrap (i + 1) = i + 1 := IntWalk.i64_in _ (by omega)
   have hlt' : ¬ (n : Int) < i := by omega
   by_cases hin : 0 ≤ i ∧ i < (n : Int)
   ·obtain ⟨k, rfl⟩ : ∃ k : Nat, i = (k : Int) := ⟨i.toNat, by omega⟩
    have hk : k < n := by omega
    have HKN : Hid (k < n) := hk
    have t0 : ¬ (k : Int) < 0 := by omega
    have t1 : (0 : Int) ≤ (k : Int) := by omega
    have t2 : ¬ (k : Int) = (n : Int) := by omega
    have t2n : ¬ k = n := by omega
    have t3 : (k : Int) < (n : Int) := by omega
    obtain ⟨ad1, cp1, e1, ho⟩ := RowO.cells HS.out.ro
    obtain ⟨ad2, cp2, e2, hs⟩ := RowN.cells HS.out.rs
    obtain ⟨ad3, cp3, e3, hd⟩ := RowD.cells HS.out.rd
    rw [HL1.out.1] at e1
    rw [HL1.out.2] at e2
    rw [List.length_map, HL1.out.1] at e3
    cases e1
    cases e2
    cases e3
    obtain ⟨bo, oo, rfl, x1, x2, x3⟩ := ho k (by rw [HL1.out.1]; exact hk)
    obtain ⟨b2, o2, rfl, y1, y2⟩ := hs k (by rw [HL1.out.2]; exact hk)
    obtain ⟨b3, o3, rfl, z1, z2⟩ := hd k (by rw [List.length_map, HL1.out.1]; exact hk)
    have CB := Lib.hid (CB1.out wr k HS.out.pk hk)
    have CI : Hid (∀ W, PackAt W g l S os → _) := Lib.hid (fun W h => CI1.out W k h hk)
    have CQ : Hid (∀ W, PackAt W g l S os → _) := Lib.hid (fun W h => CQ1.out W k h hk)
    have CF : Hid (∀ W, PackAt W g l S os → _) := Lib.hid (fun W h => CF1.out W k h hk)
    have hno : ∀ W, (binOp .neq 43 (.agg #[.int .i64 (os.getD k zo).1, .string (bs (os.getD k zo).2)]) (.agg #[.int .i64 (os.getD k zo).1, .string (bs (os.getD k zo).2)])).run Tryz.prog W = .ok (.bool false) W := fun W => by
     have := neqObj (os.getD k zo).1 (os.getD k zo).1 (os.getD k zo).2 (os.getD k zo).2 W
     rw [decide_eq_true ⟨rfl, rfl⟩] at this
     exact this
    have hnd : ∀ W, (binOp .neq 37 (.agg (arr 32 (bv ((os.map oid).getD k zf)))) (.agg (arr 32 (bv ((os.map oid).getD k zf))))).run Tryz.prog W = .ok (.bool false) W := fun W => by
     have := neqId ((os.map oid).getD k zf) ((os.map oid).getD k zf) W
     rw [decide_eq_true (same32_refl _)] at this
     exact this
    obtain ⟨xk, hxk⟩ : ∃ xk, xk = (os.getD k zo).1 := ⟨_, rfl⟩
    obtain ⟨xs, hxs⟩ : ∃ xs, xs = bs (os.getD k zo).2 := ⟨_, rfl⟩
    obtain ⟨sk, hsk⟩ : ∃ sk, sk = S.getD k 0 := ⟨_, rfl⟩
    obtain ⟨D, hD⟩ : ∃ D, D = (os.map oid).getD k zf := ⟨_, rfl⟩
    rw [← hxk] at x2 CB hno
    rw [← hxs] at x3 CB hno
    rw [← hsk] at y2 CQ
    rw [← hD] at z2 CI CF hnd
    have HX : Hid (wr.cell? ⟨bo, oo + k * 2, none⟩ = some (.int .i64 xk) ∧ wr.cell? ⟨bo, oo + k * 2 + 1, none⟩ = some (.string xs) ∧ wr.cell? ⟨b2, o2 + k, none⟩ = some (.int .i64 (sk : Int)) ∧ At wr b3 (o3 + k * 32) 32 (bv D) ∧ b3 < wr.heap.size) := ⟨x2, x3, y2, z2, z1⟩
    have HNO := Lib.hid hno
    have HND := Lib.hid hnd
    clear hxk hxs hsk hD ho hs hd x1 x2 x3 y1 y2 z1 z2 CB1 CI1 CQ1 CF1 CB0 CI0 CQ0 hno hnd
    go_wp2_with fail
    refine CB.out.mono ?_
    rintro e w4 ⟨rfl, B4⟩
    have hA4 : Below w4.heap.size w4 (w4.alloc (.cells #[.int .i64 xk, .string xs] 43)) := (Below.refl _ _).alloc (Nat.le_refl _) _
    have BB : Below wr.heap.size wr (w4.alloc (.cells #[.int .i64 xk, .string xs] 43)) := B4.trans (hA4.mono B4.size)
    have o4 : (w4.alloc (.cells #[.int .i64 xk, .string xs] 43)).heap[w4.heap.size]? = some (.cells #[.int .i64 xk, .string xs] 43 (0, 0)) := heap_alloc_new _ _
    have F4 : Hid (SFc w g w.heap.size w4.heap.size l S os (.slice al n cl) (.slice (some ⟨b2, o2, none⟩) n cs) (.slice (some ⟨bo, oo, none⟩) n co) (.slice (some ⟨b3, o3, none⟩) n cd) bo oo k xk xs b2 o2 sk b3 o3 D (w4.alloc (.cells #[.int .i64 xk, .string xs] 43))) :=
     ⟨HS.out.step BB, o4, by rw [BB.cell (block_lt_of_cell HX.out.1)]; exact HX.out.1, by rw [BB.cell (block_lt_of_cell HX.out.2.1)]; exact HX.out.2.1, by rw [BB.cell (block_lt_of_cell HX.out.2.2.1)]; exact HX.out.2.2.1, HX.out.2.2.2.1.below BB HX.out.2.2.2.2⟩
    clear B4 hA4 BB o4 CB HX HS m0
    go_upto_region 7 with fail
    change Code.wp _ _ _ _ (w4.alloc (.cells #[.int .i64 xk, .string xs] 43))
    obtain ⟨z, hz⟩ : ∃ z, z = w4.heap.size := ⟨_, rfl⟩
    rw [← hz] at F4 ⊢
    generalize w4.alloc (.cells #[.int .i64 xk, .string xs] 43) = w5' at F4 ⊢
    clear hz
    have m0 := cell_of_row _ _ 0 _ _ _ (show SF _ _ _ _ _ _ _ _ _ _ _ _ _ _ _ _ _ _ _ _ _ _ _ from F4.out).ss.bm
    have hkn : ((k : Int) == (n : Int)) = false := beq_eq_false_iff_ne.2 t2
    have hk0 : decide ((k : Int) < 0) = false := by simp
    refine wp_region_lit ?_
    iterate 9
     refine wpList_valS (v := ?_) (by kernel_rfl) ?_ ?_
     rotate_left 1
     ·(go_simp; try with_reducible rfl)
     try simp only [Act.put, tA, tZ, tS]
    refine wpList_nil ?_
    clear m0 hkn hk0
    go_upto_region 10 with fail
    have SD := (SF.step F4.out (Below.refl _ _).drew).all
    have hno := HNO.out
    have hnd := HND.out
    refine wp_region_noPanic ?_
    refine wp_region_held_drew (S := (fun W => W.cell? ⟨w.heap.size, 1, none⟩ = some (.slice (some ⟨b2, o2, none⟩) n cs) ∧ W.cell? ⟨w.heap.size, 2, none⟩ = some (.slice (some ⟨bo, oo, none⟩) n co) ∧ W.cell? ⟨w.heap.size, 3, none⟩ = some (.slice (some ⟨b3, o3, none⟩) n cd) ∧ W.cell? ⟨z, 0, none⟩ = some (.int .i64 xk) ∧ W.cell? ⟨z, 1, none⟩ = some (.string xs) ∧ W.cell? ⟨bo, oo + k * 2, none⟩ = some (.int .i64 xk) ∧ W.cell? ⟨bo, oo + k * 2 + 1, none⟩ = some (.string xs) ∧ W.cell? ⟨b2, o2 + k, none⟩ = some (.int .i64 (sk : Int)) ∧ SF w g w.heap.size z l S os (.slice al n cl) (.slice (some ⟨b2, o2, none⟩) n cs) (.slice (some ⟨bo, oo, none⟩) n co) (.slice (some ⟨b3, o3, none⟩) n cd) bo oo k xk xs b2 o2 sk b3 o3 D W)) (by kernel_rfl) SD (fun hHeld => ?_)
    refine wpAnyH_take (i := 0) (oi := ⟨some 63, .move (.tmp 7), 4, "law.go:33", #[], none⟩) (v := ?_) rfl (by kernel_rfl) (by kernel_rfl) (by kernel_rfl) (fun _ _ _ h => h) (Or.inl ⟨by kernel_rfl, ?_⟩) (by assumption) ?_
    rotate_left 1
    ·(intro wS hSw; (try dsimp only at hSw); go_simp; try with_reducible rfl)
    try simp only [Act.put, tA, tZ, tS]
    refine wpAnyH_take (i := 1) (oi := ⟨some 64, .unOp UnOp.not 4 (.tmp 63), 4, "law.go:33", #[⟨0, .data⟩], none⟩) (v := ?_) rfl (by kernel_rfl) (by kernel_rfl) (by kernel_rfl) (fun _ _ _ h => h) (Or.inl ⟨by kernel_rfl, ?_⟩) (by assumption) ?_
    rotate_left 1
    ·(intro wS hSw; (try dsimp only at hSw); go_simp; try with_reducible rfl)
    try simp only [Act.put, tA, tZ, tS]
    refine wpAnyH_take (i := 2) (oi := ⟨some 65, .move (.tmp 64), 4, "law.go:33", #[⟨1, .data⟩], none⟩) (v := ?_) rfl (by kernel_rfl) (by kernel_rfl) (by kernel_rfl) (fun _ _ _ h => h) (Or.inl ⟨by kernel_rfl, ?_⟩) (by assumption) ?_
    rotate_left 1
    ·(intro wS hSw; (try dsimp only at hSw); go_simp; try with_reducible rfl)
    try simp only [Act.put, tA, tZ, tS]
    refine wpAnyH_take (i := 3) (oi := ⟨some 66, .load 43 (.tmp 6), 43, "law.go:33", #[⟨2, .guard⟩], some (2, false)⟩) (v := ?_) rfl (by kernel_rfl) (by kernel_rfl) (by kernel_rfl) (fun _ _ _ h => h) (Or.inl ⟨by kernel_rfl, ?_⟩) (by assumption) ?_
    rotate_left 1
    ·(intro wS hSw; (try dsimp only at hSw); go_simp; try with_reducible rfl)
    try simp only [Act.put, tA, tZ, tS]
    refine wpAnyH_take (i := 4) (oi := ⟨some 67, .fieldAddr 32 (.tmp 3) 2, 0, "law.go:33", #[⟨2, .guard⟩], some (2, false)⟩) (v := ?_) rfl (by kernel_rfl) (by kernel_rfl) (by kernel_rfl) (fun _ _ _ h => h) (Or.inl ⟨by kernel_rfl, ?_⟩) (by assumption) ?_
    rotate_left 1
    ·(intro wS hSw; (try dsimp only at hSw); go_simp; try with_reducible rfl)
    try simp only [Act.put, tA, tZ, tS]
    refine wpAnyH_take (i := 5) (oi := ⟨some 68, .load 29 (.tmp 67), 29, "law.go:33", #[⟨4, .data⟩, ⟨2, .guard⟩], some (2, false)⟩) (v := ?_) rfl (by kernel_rfl) (by kernel_rfl) (by kernel_rfl) (fun _ _ _ h => h) (Or.inl ⟨by kernel_rfl, ?_⟩) (by assumption) ?_
    rotate_left 1
    ·(intro wS hSw; (try dsimp only at hSw); go_simp; try with_reducible rfl)
    try simp only [Act.put, tA, tZ, tS]
    refine wpAnyH_take (i := 6) (oi := ⟨some 69, .move (.tmp 5), 3, "law.go:33", #[⟨2, .guard⟩], some (2, false)⟩) (v := ?_) rfl (by kernel_rfl) (by kernel_rfl) (by kernel_rfl) (fun _ _ _ h => h) (Or.inl ⟨by kernel_rfl, ?_⟩) (by assumption) ?_
    rotate_left 1
    ·(intro wS hSw; (try dsimp only at hSw); go_simp; try with_reducible rfl)
    try simp only [Act.put, tA, tZ, tS]
    refine wpAnyH_take (i := 7) (oi := ⟨some 70, .indexAddr 29 (.tmp 68) (.tmp 69), 0, "law.go:33", #[⟨5, .data⟩, ⟨6, .data⟩, ⟨2, .guard⟩], some (2, false)⟩) (v := ?_) rfl (by kernel_rfl) (by kernel_rfl) (by kernel_rfl) (fun _ _ _ h => h) (Or.inl ⟨by kernel_rfl, ?_⟩) (by assumption) ?_
    rotate_left 1
    ·(intro wS hSw; (try dsimp only at hSw); go_simp; try with_reducible rfl)
    try simp only [Act.put, tA, tZ, tS]
    refine wpAnyH_take (i := 8) (oi := ⟨some 71, .load 43 (.tmp 70), 43, "law.go:33", #[⟨7, .data⟩, ⟨2, .guard⟩], some (2, false)⟩) (v := ?_) rfl (by kernel_rfl) (by kernel_rfl) (by kernel_rfl) (fun _ _ _ h => h) (Or.inl ⟨by kernel_rfl, ?_⟩) (by assumption) ?_
    rotate_left 1
    ·(intro wS hSw; (try dsimp only at hSw); go_simp; try with_reducible rfl)
    try simp only [Act.put, tA, tZ, tS]
    refine wpAnyH_take (i := 9) (oi := ⟨some 72, .binOp BinOp.neq 43 (.tmp 66) (.tmp 71) 43, 4, "law.go:33", #[⟨3, .data⟩, ⟨8, .data⟩, ⟨2, .guard⟩], some (2, false)⟩) (v := ?_) rfl (by kernel_rfl) (by kernel_rfl) (by kernel_rfl) (fun _ _ _ h => h) (Or.inl ⟨by kernel_rfl, ?_⟩) (by assumption) ?_
    rotate_left 1
    ·(intro wS hSw; (try dsimp only at hSw); go_simp; try with_reducible rfl)
    try simp only [Act.put, tA, tZ, tS]
    refine wpAnyH_take (i := 10) (oi := ⟨some 73, .pick (.tmp 65) (Operand.const (Value.bool true)) (.tmp 72), 4, "law.go:33", #[⟨2, .data⟩, ⟨9, .data⟩], none⟩) (v := ?_) rfl (by kernel_rfl) (by kernel_rfl) (by kernel_rfl) (fun _ _ _ h => h) (Or.inl ⟨by kernel_rfl, ?_⟩) (by assumption) ?_
    rotate_left 1
    ·(intro wS hSw; (try dsimp only at hSw); go_simp; try with_reducible rfl)
    try simp only [Act.put, tA, tZ, tS]
    refine wpAnyH_take (i := 11) (oi := ⟨some 74, .move (.tmp 73), 4, "law.go:33", #[⟨10, .data⟩, ⟨2, .chain⟩], none⟩) (v := ?_) rfl (by kernel_rfl) (by kernel_rfl) (by kernel_rfl) (fun _ _ _ h => h) (Or.inl ⟨by kernel_rfl, ?_⟩) (by assumption) ?_
    rotate_left 1
    ·(intro wS hSw; (try dsimp only at hSw); go_simp; try with_reducible rfl)
    try simp only [Act.put, tA, tZ, tS]
    refine wpAnyH_take (i := 12) (oi := ⟨some 75, .move (.tmp 0), 38, "law.go:33", #[⟨11, .guard⟩], some (11, false)⟩) (v := ?_) rfl (by kernel_rfl) (by kernel_rfl) (by kernel_rfl) (fun _ _ _ h => h) (Or.inl ⟨by kernel_rfl, ?_⟩) (by assumption) ?_
    rotate_left 1
    ·(intro wS hSw; (try dsimp only at hSw); go_simp; try with_reducible rfl)
    try simp only [Act.put, tA, tZ, tS]
    refine wpAnyH_take (i := 13) (oi := ⟨some 76, .move (.tmp 5), 3, "law.go:33", #[⟨11, .guard⟩], some (11, false)⟩) (v := ?_) rfl (by kernel_rfl) (by kernel_rfl) (by kernel_rfl) (fun _ _ _ h => h) (Or.inl ⟨by kernel_rfl, ?_⟩) (by assumption) ?_
    rotate_left 1
    ·(intro wS hSw; (try dsimp only at hSw); go_simp; try with_reducible rfl)
    try simp only [Act.put, tA, tZ, tS]
    refine wpAnyH_take (i := 15) (oi := ⟨some 78, .fieldAddr 32 (.tmp 3) 3, 0, "law.go:33", #[⟨11, .guard⟩], some (11, false)⟩) (v := ?_) rfl (by kernel_rfl) (by kernel_rfl) (by kernel_rfl) (fun _ _ _ h => h) (Or.inl ⟨by kernel_rfl, ?_⟩) (by assumption) ?_
    rotate_left 1
    ·(intro wS hSw; (try dsimp only at hSw); go_simp; try with_reducible rfl)
    try simp only [Act.put, tA, tZ, tS]
    refine wpAnyH_take (i := 16) (oi := ⟨some 79, .load 30 (.tmp 78), 30, "law.go:33", #[⟨15, .data⟩, ⟨11, .guard⟩], some (11, false)⟩) (v := ?_) rfl (by kernel_rfl) (by kernel_rfl) (by kernel_rfl) (fun _ _ _ h => h) (Or.inl ⟨by kernel_rfl, ?_⟩) (by assumption) ?_
    rotate_left 1
    ·(intro wS hSw; (try dsimp only at hSw); go_simp; try with_reducible rfl)
    try simp only [Act.put, tA, tZ, tS]
    refine wpAnyH_take (i := 17) (oi := ⟨some 80, .move (.tmp 5), 3, "law.go:33", #[⟨11, .guard⟩], some (11, false)⟩) (v := ?_) rfl (by kernel_rfl) (by kernel_rfl) (by kernel_rfl) (fun _ _ _ h => h) (Or.inl ⟨by kernel_rfl, ?_⟩) (by assumption) ?_
    rotate_left 1
    ·(intro wS hSw; (try dsimp only at hSw); go_simp; try with_reducible rfl)
    try simp only [Act.put, tA, tZ, tS]
    refine wpAnyH_take (i := 18) (oi := ⟨some 81, .indexAddr 30 (.tmp 79) (.tmp 80), 0, "law.go:33", #[⟨16, .data⟩, ⟨17, .data⟩, ⟨11, .guard⟩], some (11, false)⟩) rfl (by kernel_rfl) (by kernel_rfl) (by kernel_rfl) (fun _ _ _ h => h) (Or.inl ⟨by kernel_rfl, fun wS hSw => ex_index 30 37 (.tmp 79) (.tmp 80) rfl b3 o3 k n cd 32 rfl rfl tIdP sz30 HKN.out⟩) (by assumption) ?_
    try simp only [Act.put, tA, tZ, tS]
    refine wpAnyH_take (i := 19) (oi := ⟨some 82, .load 37 (.tmp 81), 37, "law.go:33", #[⟨18, .data⟩, ⟨11, .guard⟩], some (11, false)⟩) rfl (by kernel_rfl) (by kernel_rfl) (by kernel_rfl) (fun _ _ _ h => h) (Or.inl ⟨by kernel_rfl, fun wS hSw => ex_load 37 (.tmp 81) rfl b3 (o3 + k * 32) 32 (bv D) rfl ty30 rfl sz30 hSw.2.2.2.2.2.2.2.2.ad⟩) (by assumption) ?_
    try simp only [Act.put, tA, tZ, tS]
    refine wpAnyH_ready (rs := [14]) (by kernel_rfl) (by simp) ?_
    refine AllReadyH.cons (o := ⟨some 77, .call { callee := .value (Operand.func 17), args := #[.tmp 75, .tmp 76], argTypes := #[38, 3] }, 37, "law.go:33", #[⟨12, .data⟩, ⟨13, .data⟩, ⟨11, .chain⟩, ⟨11, .guard⟩], some (11, false)⟩) rfl (fun K hK => ?_) AllReadyH.nil
    go_simp
    refine (CI.out _ SD.2.2.2.2.2.2.2.2.ss.pk).mono ?_
    rintro e w6 ⟨rfl, B6⟩
    have Sa14 := (SF.step SD.2.2.2.2.2.2.2.2 B6).all
    refine hK.out _ _ Sa14 (fun hHeld14 => ?_)
    clear hK K
    try simp only [Act.put, tA, tZ, tS]
    refine wpAnyH_take (i := 20) (oi := ⟨some 83, .binOp BinOp.neq 37 (.tmp 77) (.tmp 82) 37, 4, "law.go:33", #[⟨14, .data⟩, ⟨19, .data⟩, ⟨11, .guard⟩], some (11, false)⟩) (v := ?_) rfl (by kernel_rfl) (by kernel_rfl) (by kernel_rfl) (fun _ _ _ h => h) (Or.inl ⟨by kernel_rfl, ?_⟩) (by assumption) ?_
    rotate_left 1
    ·(intro wS hSw; (try dsimp only at hSw); go_simp; try with_reducible rfl)
    try simp only [Act.put, tA, tZ, tS]
    refine wpAnyH_take (i := 21) (oi := ⟨some 84, .pick (.tmp 74) (Operand.const (Value.bool true)) (.tmp 83), 4, "law.go:33", #[⟨11, .data⟩, ⟨20, .data⟩], none⟩) (v := ?_) rfl (by kernel_rfl) (by kernel_rfl) (by kernel_rfl) (fun _ _ _ h => h) (Or.inl ⟨by kernel_rfl, ?_⟩) (by assumption) ?_
    rotate_left 1
    ·(intro wS hSw; (try dsimp only at hSw); go_simp; try with_reducible rfl)
    try simp only [Act.put, tA, tZ, tS]
    refine wpAnyH_take (i := 22) (oi := ⟨some 85, .move (.tmp 84), 4, "law.go:33", #[⟨21, .data⟩, ⟨14, .chain⟩], none⟩) (v := ?_) rfl (by kernel_rfl) (by kernel_rfl) (by kernel_rfl) (fun _ _ _ h => h) (Or.inl ⟨by kernel_rfl, ?_⟩) (by assumption) ?_
    rotate_left 1
    ·(intro wS hSw; (try dsimp only at hSw); go_simp; try with_reducible rfl)
    try simp only [Act.put, tA, tZ, tS]
    refine wpAnyH_take (i := 23) (oi := ⟨some 86, .move (.tmp 0), 38, "law.go:33", #[⟨22, .guard⟩], some (22, false)⟩) (v := ?_) rfl (by kernel_rfl) (by kernel_rfl) (by kernel_rfl) (fun _ _ _ h => h) (Or.inl ⟨by kernel_rfl, ?_⟩) (by assumption) ?_
    rotate_left 1
    ·(intro wS hSw; (try dsimp only at hSw); go_simp; try with_reducible rfl)
    try simp only [Act.put, tA, tZ, tS]
    refine wpAnyH_take (i := 24) (oi := ⟨some 87, .move (.tmp 5), 3, "law.go:33", #[⟨22, .guard⟩], some (22, false)⟩) (v := ?_) rfl (by kernel_rfl) (by kernel_rfl) (by kernel_rfl) (fun _ _ _ h => h) (Or.inl ⟨by kernel_rfl, ?_⟩) (by assumption) ?_
    rotate_left 1
    ·(intro wS hSw; (try dsimp only at hSw); go_simp; try with_reducible rfl)
    try simp only [Act.put, tA, tZ, tS]
    refine wpAnyH_take (i := 26) (oi := ⟨some 89, .fieldAddr 32 (.tmp 3) 1, 0, "law.go:33", #[⟨22, .guard⟩], some (22, false)⟩) (v := ?_) rfl (by kernel_rfl) (by kernel_rfl) (by kernel_rfl) (fun _ _ _ h => h) (Or.inl ⟨by kernel_rfl, ?_⟩) (by assumption) ?_
    rotate_left 1
    ·(intro wS hSw; (try dsimp only at hSw); go_simp; try with_reducible rfl)
    try simp only [Act.put, tA, tZ, tS]
    refine wpAnyH_take (i := 27) (oi := ⟨some 90, .load 28 (.tmp 89), 28, "law.go:33", #[⟨26, .data⟩, ⟨22, .guard⟩], some (22, false)⟩) (v := ?_) rfl (by kernel_rfl) (by kernel_rfl) (by kernel_rfl) (fun _ _ _ h => h) (Or.inl ⟨by kernel_rfl, ?_⟩) (by assumption) ?_
    rotate_left 1
    ·(intro wS hSw; (try dsimp only at hSw); go_simp; try with_reducible rfl)
    try simp only [Act.put, tA, tZ, tS]
    refine wpAnyH_take (i := 28) (oi := ⟨some 91, .move (.tmp 5), 3, "law.go:33", #[⟨22, .guard⟩], some (22, false)⟩) (v := ?_) rfl (by kernel_rfl) (by kernel_rfl) (by kernel_rfl) (fun _ _ _ h => h) (Or.inl ⟨by kernel_rfl, ?_⟩) (by assumption) ?_
    rotate_left 1
    ·(intro wS hSw; (try dsimp only at hSw); go_simp; try with_reducible rfl)
    try simp only [Act.put, tA, tZ, tS]
    refine wpAnyH_take (i := 29) (oi := ⟨some 92, .indexAddr 28 (.tmp 90) (.tmp 91), 0, "law.go:33", #[⟨27, .data⟩, ⟨28, .data⟩, ⟨22, .guard⟩], some (22, false)⟩) (v := ?_) rfl (by kernel_rfl) (by kernel_rfl) (by kernel_rfl) (fun _ _ _ h => h) (Or.inl ⟨by kernel_rfl, ?_⟩) (by assumption) ?_
    rotate_left 1
    ·(intro wS hSw; (try dsimp only at hSw); go_simp; try with_reducible rfl)
    try simp only [Act.put, tA, tZ, tS]
    refine wpAnyH_take (i := 30) (oi := ⟨some 93, .load 3 (.tmp 92), 3, "law.go:33", #[⟨29, .data⟩, ⟨22, .guard⟩], some (22, false)⟩) (v := ?_) rfl (by kernel_rfl) (by kernel_rfl) (by kernel_rfl) (fun _ _ _ h => h) (Or.inl ⟨by kernel_rfl, ?_⟩) (by assumption) ?_
    rotate_left 1
    ·(intro wS hSw; (try dsimp only at hSw); go_simp; try with_reducible rfl)
    try simp only [Act.put, tA, tZ, tS]
    refine wpAnyH_ready (rs := [25]) (by kernel_rfl) (by simp) ?_
    refine AllReadyH.cons (o := ⟨some 88, .call { callee := .value (Operand.func 18), args := #[.tmp 86, .tmp 87], argTypes := #[38, 3] }, 3, "law.go:33", #[⟨23, .data⟩, ⟨24, .data⟩, ⟨22, .chain⟩, ⟨22, .guard⟩], some (22, false)⟩) rfl (fun K hK => ?_) AllReadyH.nil
    go_simp
    refine (CQ.out _ Sa14.2.2.2.2.2.2.2.2.ss.pk).mono ?_
    rintro e w7 ⟨rfl, rfl⟩
    have Sa25 := Sa14
    refine hK.out _ _ Sa25 (fun hHeld25 => ?_)
    clear hK K
    try simp only [Act.put, tA, tZ, tS]
    refine wpAnyH_take (i := 31) (oi := ⟨some 94, .binOp BinOp.neq 3 (.tmp 88) (.tmp 93) 3, 4, "law.go:33", #[⟨25, .data⟩, ⟨30, .data⟩, ⟨22, .guard⟩], some (22, false)⟩) (v := ?_) rfl (by kernel_rfl) (by kernel_rfl) (by kernel_rfl) (fun _ _ _ h => h) (Or.inl ⟨by kernel_rfl, ?_⟩) (by assumption) ?_
    rotate_left 1
    ·(intro wS hSw; (try dsimp only at hSw); go_simp; try with_reducible rfl)
    try simp only [Act.put, tA, tZ, tS]
    refine wpAnyH_take (i := 32) (oi := ⟨some 95, .pick (.tmp 85) (Operand.const (Value.bool true)) (.tmp 94), 4, "law.go:33", #[⟨22, .data⟩, ⟨31, .data⟩], none⟩) (v := ?_) rfl (by kernel_rfl) (by kernel_rfl) (by kernel_rfl) (fun _ _ _ h => h) (Or.inl ⟨by kernel_rfl, ?_⟩) (by assumption) ?_
    rotate_left 1
    ·(intro wS hSw; (try dsimp only at hSw); go_simp; try with_reducible rfl)
    try simp only [Act.put, tA, tZ, tS]
    refine wpAnyH_take (i := 33) (oi := ⟨some 96, .move (.tmp 95), 4, "law.go:33", #[⟨32, .data⟩, ⟨25, .chain⟩], none⟩) (v := ?_) rfl (by kernel_rfl) (by kernel_rfl) (by kernel_rfl) (fun _ _ _ h => h) (Or.inl ⟨by kernel_rfl, ?_⟩) (by assumption) ?_
    rotate_left 1
    ·(intro wS hSw; (try dsimp only at hSw); go_simp; try with_reducible rfl)
    try simp only [Act.put, tA, tZ, tS]
    refine wpAnyH_take (i := 34) (oi := ⟨some 97, .move (.tmp 0), 38, "law.go:33", #[⟨33, .guard⟩], some (33, false)⟩) (v := ?_) rfl (by kernel_rfl) (by kernel_rfl) (by kernel_rfl) (fun _ _ _ h => h) (Or.inl ⟨by kernel_rfl, ?_⟩) (by assumption) ?_
    rotate_left 1
    ·(intro wS hSw; (try dsimp only at hSw); go_simp; try with_reducible rfl)
    try simp only [Act.put, tA, tZ, tS]
    refine wpAnyH_take (i := 35) (oi := ⟨some 98, .fieldAddr 32 (.tmp 3) 3, 0, "law.go:33", #[⟨33, .guard⟩], some (33, false)⟩) (v := ?_) rfl (by kernel_rfl) (by kernel_rfl) (by kernel_rfl) (fun _ _ _ h => h) (Or.inl ⟨by kernel_rfl, ?_⟩) (by assumption) ?_
    rotate_left 1
    ·(intro wS hSw; (try dsimp only at hSw); go_simp; try with_reducible rfl)
    try simp only [Act.put, tA, tZ, tS]
    refine wpAnyH_take (i := 36) (oi := ⟨some 99, .load 30 (.tmp 98), 30, "law.go:33", #[⟨35, .data⟩, ⟨33, .guard⟩], some (33, false)⟩) (v := ?_) rfl (by kernel_rfl) (by kernel_rfl) (by kernel_rfl) (fun _ _ _ h => h) (Or.inl ⟨by kernel_rfl, ?_⟩) (by assumption) ?_
    rotate_left 1
    ·(intro wS hSw; (try dsimp only at hSw); go_simp; try with_reducible rfl)
    try simp only [Act.put, tA, tZ, tS]
    refine wpAnyH_take (i := 37) (oi := ⟨some 100, .move (.tmp 5), 3, "law.go:33", #[⟨33, .guard⟩], some (33, false)⟩) (v := ?_) rfl (by kernel_rfl) (by kernel_rfl) (by kernel_rfl) (fun _ _ _ h => h) (Or.inl ⟨by kernel_rfl, ?_⟩) (by assumption) ?_
    rotate_left 1
    ·(intro wS hSw; (try dsimp only at hSw); go_simp; try with_reducible rfl)
    try simp only [Act.put, tA, tZ, tS]
    refine wpAnyH_take (i := 38) (oi := ⟨some 101, .indexAddr 30 (.tmp 99) (.tmp 100), 0, "law.go:33", #[⟨36, .data⟩, ⟨37, .data⟩, ⟨33, .guard⟩], some (33, false)⟩) rfl (by kernel_rfl) (by kernel_rfl) (by kernel_rfl) (fun _ _ _ h => h) (Or.inl ⟨by kernel_rfl, fun wS hSw => ex_index 30 37 (.tmp 99) (.tmp 100) rfl b3 o3 k n cd 32 rfl rfl tIdP sz30 HKN.out⟩) (by assumption) ?_
    try simp only [Act.put, tA, tZ, tS]
    refine wpAnyH_take (i := 39) (oi := ⟨some 102, .load 37 (.tmp 101), 37, "law.go:33", #[⟨38, .data⟩, ⟨33, .guard⟩], some (33, false)⟩) rfl (by kernel_rfl) (by kernel_rfl) (by kernel_rfl) (fun _ _ _ h => h) (Or.inl ⟨by kernel_rfl, fun wS hSw => ex_load 37 (.tmp 101) rfl b3 (o3 + k * 32) 32 (bv D) rfl ty30 rfl sz30 hSw.2.2.2.2.2.2.2.2.ad⟩) (by assumption) ?_
    try simp only [Act.put, tA, tZ, tS]
    refine wpAnyH_take (i := 41) (oi := ⟨some 104, .move (.tmp 5), 3, "law.go:33", #[⟨33, .guard⟩], some (33, false)⟩) (v := ?_) rfl (by kernel_rfl) (by kernel_rfl) (by kernel_rfl) (fun _ _ _ h => h) (Or.inl ⟨by kernel_rfl, ?_⟩) (by assumption) ?_
    rotate_left 1
    ·(intro wS hSw; (try dsimp only at hSw); go_simp; try with_reducible rfl)
    try simp only [Act.put, tA, tZ, tS]
    refine wpAnyH_ready (rs := [40]) (by kernel_rfl) (by simp) ?_
    refine AllReadyH.cons (o := ⟨some 103, .call { callee := .value (Operand.func 19), args := #[.tmp 97, .tmp 102], argTypes := #[38, 37] }, 3, "law.go:33", #[⟨34, .data⟩, ⟨39, .data⟩, ⟨33, .chain⟩, ⟨33, .guard⟩], some (33, false)⟩) rfl (fun K hK => ?_) AllReadyH.nil
    go_simp
    refine (CF.out _ Sa14.2.2.2.2.2.2.2.2.ss.pk).mono ?_
    rintro e w8 ⟨rfl, B8⟩
    have Sa40 := (SF.step Sa14.2.2.2.2.2.2.2.2 B8).all
    refine hK.out _ _ Sa40 (fun hHeld40 => ?_)
    clear hK K
    try simp only [Act.put, tA, tZ, tS]
    refine wpAnyH_take (i := 42) (oi := ⟨some 105, .binOp BinOp.neq 3 (.tmp 103) (.tmp 104) 3, 4, "law.go:33", #[⟨40, .data⟩, ⟨41, .data⟩, ⟨33, .guard⟩], some (33, false)⟩) (v := ?_) rfl (by kernel_rfl) (by kernel_rfl) (by kernel_rfl) (fun _ _ _ h => h) (Or.inl ⟨by kernel_rfl, ?_⟩) (by assumption) ?_
    rotate_left 1
    ·(intro wS hSw; (try dsimp only at hSw); go_simp; try with_reducible rfl)
    try simp only [Act.put, tA, tZ, tS]
    refine wpAnyH_take (i := 43) (oi := ⟨some 106, .pick (.tmp 96) (Operand.const (Value.bool true)) (.tmp 105), 4, "law.go:33", #[⟨33, .data⟩, ⟨42, .data⟩], none⟩) (v := ?_) rfl (by kernel_rfl) (by kernel_rfl) (by kernel_rfl) (fun _ _ _ h => h) (Or.inl ⟨by kernel_rfl, ?_⟩) (by assumption) ?_
    rotate_left 1
    ·(intro wS hSw; (try dsimp only at hSw); go_simp; try with_reducible rfl)
    try simp only [Act.put, tA, tZ, tS]
    refine wpAnyH_done (by kernel_rfl) ?_ _
    refine NoPanic.normal ?_
    have HS9 := Lib.hid Sa40.2.2.2.2.2.2.2.2.ss
    clear SD Sa14 Sa25 Sa40 B6 B8 F4 CI CQ CF hno hnd HNO HND hHeld hHeld14 hHeld25 hHeld40
    go_wp2
    go_roundw
    case rel => exact ⟨(k : Int) + 1, by go_num, by omega, by omega, HS9⟩
    case measure => simp [intOf]; omega
   ·have hout : i < 0 ∨ (n : Int) ≤ i := by omega
    have CB := Lib.hid (CB0.out wr i HS.out.pk hout)
    have CI : Hid (∀ W, PackAt W g l S os → _) := Lib.hid (fun W h => CI0.out W i h hout)
    have CQ : Hid (∀ W, PackAt W g l S os → _) := Lib.hid (fun W h => CQ0.out W i h hout)
    have hno : ∀ W, (binOp .neq 43 (.agg #[.int .i64 0, .string ⟨#[]⟩]) (.agg #[.int .i64 0, .string ⟨#[]⟩])).run Tryz.prog W = .ok (.bool false) W := fun W => by
     have := neqObj 0 0 [] [] W
     rw [decide_eq_true ⟨rfl, rfl⟩] at this
     exact this
    have hnd : ∀ W, (binOp .neq 37 (.agg (arr 32 (bv fun _ => 0))) (.agg (arr 32 (bv fun _ => 0)))).run Tryz.prog W = .ok (.bool false) W := fun W => by
     have := neqId (fun _ => 0) (fun _ => 0) W
     rw [decide_eq_true (same32_refl _)] at this
     exact this
    have HNO := Lib.hid hno
    have HND := Lib.hid hnd
    have hcs : (i < 0 ∧ ¬ (0 : Int) ≤ i) ∨ ((0 : Int) ≤ i ∧ ¬ i < 0 ∧ i = (n : Int)) := by omega
    clear CB1 CI1 CQ1 CF1 CB0 CI0 CQ0 hin hno hnd
    go_wp2_with fail
    refine CB.out.mono ?_
    rintro e w4 ⟨rfl, B4⟩
    have hA4 : Below w4.heap.size w4 (w4.alloc (.cells #[.int .i64 0, .string ⟨#[]⟩] 43)) := (Below.refl _ _).alloc (Nat.le_refl _) _
    have S5 := Lib.hid ((HS.out.step B4).step hA4)
    have o4 : (w4.alloc (.cells #[.int .i64 0, .string ⟨#[]⟩] 43)).heap[w4.heap.size]? = some (.cells #[.int .i64 0, .string ⟨#[]⟩] 43 (0, 0)) := heap_alloc_new _ _
    clear B4 hA4 CB HS m0
    go_upto_region 7 with fail
    change Code.wp _ _ _ _ (w4.alloc (.cells #[.int .i64 0, .string ⟨#[]⟩] 43))
    obtain ⟨z, hz⟩ : ∃ z, z = w4.heap.size := ⟨_, rfl⟩
    rw [← hz] at o4 ⊢
    generalize w4.alloc (.cells #[.int .i64 0, .string ⟨#[]⟩] 43) = w5' at S5 o4 ⊢
    clear hz
    have q0 := cell_of_row _ _ 0 _ _ _ o4
    have q1 := cell_of_row _ _ 1 _ _ _ o4
    have m0 := cell_of_row _ _ 0 _ _ _ S5.out.bm
    rcases hcs with ⟨c1, c2⟩ | ⟨c1, c2, rfl⟩
    all_goals
     go_upto_region 8 with fail
     have hno := HNO.out
     clear m0
     refine wp_region_lit ?_
     iterate 9
      refine wpList_valS (v := ?_) (by kernel_rfl) ?_ ?_
      rotate_left 1
      ·(go_simp; try with_reducible rfl)
      try simp only [Act.put, tA, tZ, tS]
     refine wpList_callG (by kernel_rfl) fun K hK => ?_
     go_simp
     refine (CI.out _ S5.out.pk).mono ?_
     rintro e w6 ⟨rfl, B6⟩
     refine hK _ _ ?_
     clear hK K
     try simp only [Act.put, tA, tZ, tS]
     have S6 := Lib.hid (S5.out.step B6)
     clear B6 hno
     refine wpList_valG (by kernel_rfl) (ex_build0 rfl (bd_zid _)) ?_
     try simp only [Act.put, tA, tZ, tS]
     have hnd := HND.out
     iterate 5
      refine wpList_valS (v := ?_) (by kernel_rfl) ?_ ?_
      rotate_left 1
      ·(go_simp; try with_reducible rfl)
      try simp only [Act.put, tA, tZ, tS]
     refine wpList_callG (by kernel_rfl) fun K hK => ?_
     go_simp
     refine (CQ.out _ S6.out.pk).mono ?_
     rintro e w7 ⟨rfl, rfl⟩
     refine hK _ _ ?_
     clear hK K
     try simp only [Act.put, tA, tZ, tS]
     iterate 2
      refine wpList_valS (v := ?_) (by kernel_rfl) ?_ ?_
      rotate_left 1
      ·(go_simp; try with_reducible rfl)
      try simp only [Act.put, tA, tZ, tS]
     refine wpList_nil ?_
     clear hnd HNO HND CI CQ o4 q0 q1 S5
     go_wp2
     go_roundw
     case rel => exact ⟨_, by go_num, by omega, by omega, S6⟩
     case measure => first | (simp [intOf]; done) | (simp [intOf]; omega)
  ·have HL := Lib.hid HS.out.b0
   have t4 : (n : Int) < i := by omega
   clear HS
   go_wp2
   go_ret
   exact ⟨rfl, HL.out⟩
end Go.Proofs.YtnmjcpoobabjgaaGreatDoor
