import Derived.Test.YtchdhpnklnfplaaL1
/- The address of a thing's id, and the id loaded of it. -/
namespace Go.Proofs.Ytchdhpnklnfplaa
open Go.RowKit
theorem run_field_id (w : World) (b p : Nat) : (Instr.fieldAt 32 (.pointer (some ⟨b, p, none⟩)) 4).run Try.prog w = .ok (.pointer (some ⟨b, p + 4, none⟩)) w := by
  simp [Instr.fieldAt, run_underlying ty32, Instr.sureAddr, fieldPlace, Addr.add_mid]
theorem wpList_field_id {ops : Array Oper} {rest : List Oper} {o1 o2 : Oper} {a : Act} {w : World} {Q : Exit → Act → World → Prop} (hg1 : o1.guard = none) (hg2 : o2.guard = none) (x : Operand) (d : Tmp) (ho1 : o1.op = .fieldAddr 32 x 4) (hd : o1.dst = some d) (ho2 : o2.op = .load 30 (.tmp d))
    (b p : Nat) (hx : a.eval x = .pointer (some ⟨b, p, none⟩)) (hev : (a.put (some d) (.pointer (some ⟨b, p + 4, none⟩))).eval (.tmp d) = .pointer (some ⟨b, p + 4, none⟩)) (f : Nat → UInt8) (hc : ∀ j, j < 32 → w.cell? ⟨b, p + 4 + j, none⟩ = some (bv f j))
    (h : wpList Try.prog ops Q rest ((a.put (some d) (.pointer (some ⟨b, p + 4, none⟩))).put o2.dst (.agg (arr 32 (bv f)))) w) : wpList Try.prog ops Q (o1 :: o2 :: rest) a w := by
  refine wpList_plain hg1 fun K hK => ?_
  unfold Oper.wp
  simp only [execOp, ho1, hx, Sem.run_bind, run_field_id, Result.andThen_ok]
  refine hK _ _ ?_
  rw [hd]
  exact wpList_load_mid_id hg2 (.tmp d) ho2 b (p + 4) hev f hc h
theorem wpList_move {P : Program} {ops : Array Oper} {rest : List Oper} {o : Oper} {a : Act} {w : World} {Q : Exit → Act → World → Prop} (hg : o.guard = none) (y : Operand) (ho : o.op = .move y)
    (h : wpList P ops Q rest (a.put o.dst (a.eval y)) w) : wpList P ops Q (o :: rest) a w := by
  refine wpList_plain hg fun K hK => ?_
  unfold Oper.wp
  simp only [execOp, ho, Sem.run_pure, Result.andThen_ok]
  exact hK _ _ h
theorem t52 : Try.prog.underlying 52 = some (.slice 30) := by kernel_rfl
theorem i30 : (Try.prog.info? 30).map (fun i => (i.zero, i.size, i.bytes)) = some (some (.agg (arr 32 (bv fun _ => 0))), 32, 32) := by kernel_rfl
theorem fill_id (f : Nat → UInt8) : Instr.fill (fun i => some (i * 32, 32)) (Array.map (fun x => (arr 32 (bv fun _ => 0))[x % (arr 32 (bv fun _ => 0)).size]!) (Array.range (1 * 32))) [(0, .agg (arr 32 (bv f)))] = some (arr 32 (bv f)) := by
  kernel_rfl
theorem run_build_id (w : World) (f : Nat → UInt8) : (Instr.buildSlice 52 1 #[(0, .agg (arr 32 (bv f)))]).run Try.prog w = .ok (.slice (some ⟨w.heap.size, 0, none⟩) 1 1) (w.alloc (.cells (arr 32 (bv f)) 30)) := by
  obtain ⟨i0, hi, hz0, hz1, hz2⟩ := info_parts i30
  have hs : (arr 32 (bv f)).size = 32 := arr_size _ _
  have hf := fill_id f
  generalize arr 32 (bv f) = A at hs hf ⊢
  generalize arr 32 (bv fun _ => 0) = Z at hz0 hf
  simp [Instr.buildSlice, run_underlying t52, sizeOf, typeInfo, hi, hz1, zeroValue, hz0, Value.cells, newRow] at hf ⊢
  simp [hf]
theorem wpList_build_id {ops : Array Oper} {rest : List Oper} {o : Oper} {a : Act} {w : World} {Q : Exit → Act → World → Prop} (hg : o.guard = none) (x : Operand) (ho : o.op = .buildSlice 52 1 #[(0, x)]) (f : Nat → UInt8) (hx : a.eval x = .agg (arr 32 (bv f)))
    (h : wpList Try.prog ops Q rest (a.put o.dst (.slice (some ⟨w.heap.size, 0, none⟩) 1 1)) (w.alloc (.cells (arr 32 (bv f)) 30))) : wpList Try.prog ops Q (o :: rest) a w := by
  refine wpList_plain hg fun K hK => ?_
  have hr := run_build_id w f
  unfold Oper.wp
  simp only [execOp, ho, List.map_toArray, List.map_cons, List.map_nil, hx, Sem.run_bind, hr, Result.andThen_ok]
  exact hK _ _ h
end Go.Proofs.Ytchdhpnklnfplaa
