import Derived.Test.YtmcaapgcplhhmaaQ0
/- The second test of SketchOrder's rounds, behind the first place. -/
namespace Go.Proofs.Ytmcaapgcplhhmaa
open Go.RowKit
attribute [local go_sem] run_store_complex
set_option maxHeartbeats 8000000 in
set_option maxRecDepth 100000 in
theorem reg17 {Q : Exit → Act → World → Prop} {wr : World} {bo oo n ba oa x y u j m bl_ ol len cap0 capa capo dy dx : Nat} {hu hy hx : Nat → Int} {v1 v2 v4 v8 v9 v10 v11 v12 v13 v14 v15 v16 v17 v18 v19 v20 v21 v22 v23 v24 v25 v26 v27 v28 v29 v30 v31 v32 v33 v34 v35 v36 v37 v38 v39 v40 v41 v42 v43 v44 v45 v46 v47 v48 v49 v50 v51 v52 v53 v54 v55 v56 v57 v58 v59 v60 v61 v62 v63 v64 v65 v66 v67 v68 v69 v70 v71 v72 v73 v74 v75 v76 v77 v78 v79 v80 v81 v82 v83 v84 v85 v86 v87 v88 v89 v90 v91 v92 v93 v94 v95 v96 v97 v98 v99 v100 v101 v102 v103 v104 v105 v106 v107 v108 v109 v110 v111 v112 v113 v114 v115 v116 v117 v118 v119 v120 v121 v122 v123 v124 v125 v126 v127 v128 v129 v130 v131 : Value}
    (zk : (0 : Int) ≤ (n : Int)) (yk : (n : Int) < (len : Int)) (zx : (0 : Int) ≤ (x : Int)) (yx : (x : Int) < (len : Int)) (zj : (0 : Int) ≤ (j : Int)) (yj : (j : Int) < (len : Int)) (zm : (0 : Int) ≤ (m : Int)) (ym : (m : Int) < (len : Int)) (zu : (0 : Int) ≤ (u : Int)) (yu : (u : Int) < (len : Int)) (zy : (0 : Int) ≤ (y : Int)) (yy : (y : Int) < (len : Int))
    (zn : (0 : Int) < (n : Int)) (zn1 : decide ((0 : Int) < (n : Int)) = true) (zn2 : decide (0 < n) = true) (zn3 : 0 < n) (hmi : (n : Int) - 1 = (m : Int)) (hmw : IntKind.i64.wrap ((n : Int) - 1) = (m : Int)) (hww : IntKind.i64.wrap (m : Int) = (m : Int))
    (q1 : ((y : Int) == (x : Int)) = false) (q2 : ¬ (y : Int) = (x : Int)) (q3 : decide (dy < dx) = false)
    (S9 : SY wr bo oo j n m y x u ba oa hu hy hx wr.drew)
    (HF1 : Hid (∀ W : World, Calls Try.prog 15 #[.agg #[.complex .f64 (FB (hu 0)) (FB (hu 1)), .complex .f64 (FB (hu 2)) (FB (hu 3)), .complex .f64 (FB (hu 4)) (FB (hu 5)), .complex .f64 (FB (hu 6)) (FB (hu 7))], .agg #[.complex .f64 (FB (hy 0)) (FB (hy 1)), .complex .f64 (FB (hy 2)) (FB (hy 3)), .complex .f64 (FB (hy 4)) (FB (hy 5)), .complex .f64 (FB (hy 6)) (FB (hy 7))]] W fun e w' => e = .returned (.int .i64 (dy : Int)) ∧ Below W.heap.size W w'))
    (HF2 : Hid (∀ W : World, Calls Try.prog 15 #[.agg #[.complex .f64 (FB (hu 0)) (FB (hu 1)), .complex .f64 (FB (hu 2)) (FB (hu 3)), .complex .f64 (FB (hu 4)) (FB (hu 5)), .complex .f64 (FB (hu 6)) (FB (hu 7))], .agg #[.complex .f64 (FB (hx 0)) (FB (hx 1)), .complex .f64 (FB (hx 2)) (FB (hx 3)), .complex .f64 (FB (hx 4)) (FB (hx 5)), .complex .f64 (FB (hx 6)) (FB (hx 7))]] W fun e w' => e = .returned (.int .i64 (dx : Int)) ∧ Below W.heap.size W w'))
    (hQ : ∀ (wa : World) (c83 c84 c85 c86 c87 c88 c89 c90 c91 c92 c93 c94 c95 c96 c97 c98 c99 c100 c101 c102 c103 c104 c105 c106 c107 c108 c109 c110 c111 c112 c113 c114 c115 c116 c117 c118 c119 c120 c121 c122 c123 c124 c125 c126 c127 c128 c129 : Value), Below wr.heap.size wr wa → Q .normal { tmps := #[.slice (some ⟨bl_, ol, none⟩) len cap0, v1, v2, .slice (some ⟨ba, oa, none⟩) len capa, v4, .slice (some ⟨bo, oo, none⟩) len capo, .int .i64 (n : Int), .int .i64 (j : Int), v8, v9, v10, v11, v12, v13, v14, v15, v16, v17, v18, v19, v20, v21, v22, v23, v24, v25, v26, v27, v28, v29, v30, v31, v32, v33, v34, v35, v36, v37, v38, v39, v40, v41, v42, v43, v44, v45, v46, v47, v48, v49, v50, v51, v52, v53, v54, v55, v56, v57, v58, v59, v60, v61, v62, v63, v64, v65, v66, v67, v68, v69, v70, v71, v72, v73, v74, v75, v76, v77, v78, v79, v80, v81, v82, c83, c84, c85, c86, c87, c88, c89, c90, c91, c92, c93, c94, c95, c96, c97, c98, c99, c100, c101, c102, c103, c104, c105, c106, c107, c108, c109, c110, c111, c112, c113, c114, c115, c116, c117, c118, c119, c120, c121, c122, c123, c124, c125, c126, c127, c128, c129, .bool false, v131], defers := [] } wa) :
    Code.wp Try.prog (Code.region 17 #[{ dst := some 83, op := Op.move (Operand.tmp 5), type := 44, pos := "law.go:117", after := #[], guard := none }, { dst := some 84, op := Op.move (Operand.tmp 7), type := 3, pos := "law.go:117", after := #[], guard := none }, { dst := some 85, op := Op.indexAddr 44 (Operand.tmp 83) (Operand.tmp 84), type := 0, pos := "law.go:117", after := #[{ on := 0, ground := Ground.data }, { on := 1, ground := Ground.data }], guard := none }, { dst := some 86, op := Op.load 3 (Operand.tmp 85), type := 3, pos := "law.go:117", after := #[{ on := 2, ground := Ground.data }], guard := none }, { dst := some 87, op := Op.move (Operand.tmp 5), type := 44, pos := "law.go:117", after := #[], guard := none }, { dst := some 88, op := Op.move (Operand.tmp 6), type := 3, pos := "law.go:117", after := #[], guard := none }, { dst := some 89, op := Op.indexAddr 44 (Operand.tmp 87) (Operand.tmp 88), type := 0, pos := "law.go:117", after := #[{ on := 4, ground := Ground.data }, { on := 5, ground := Ground.data }], guard := none }, { dst := some 90, op := Op.load 3 (Operand.tmp 89), type := 3, pos := "law.go:117", after := #[{ on := 6, ground := Ground.data }], guard := none }, { dst := some 91, op := Op.binOp BinOp.eql 3 (Operand.tmp 86) (Operand.tmp 90) 3, type := 4, pos := "law.go:117", after := #[{ on := 3, ground := Ground.data }, { on := 7, ground := Ground.data }], guard := none }, { dst := some 92, op := Op.move (Operand.tmp 91), type := 4, pos := "law.go:117", after := #[{ on := 8, ground := Ground.data }], guard := none }, { dst := some 93, op := Op.move (Operand.tmp 6), type := 3, pos := "law.go:117", after := #[{ on := 9, ground := Ground.guard }], guard := some (9, false) }, { dst := some 94, op := Op.binOp BinOp.gtr 3 (Operand.tmp 93) (Operand.const (Value.int IntKind.i64 0)) 3, type := 4, pos := "law.go:117", after := #[{ on := 10, ground := Ground.data }, { on := 9, ground := Ground.guard }], guard := some (9, false) }, { dst := some 95, op := Op.move (Operand.tmp 94), type := 4, pos := "law.go:117", after := #[{ on := 11, ground := Ground.data }, { on := 9, ground := Ground.chain }, { on := 9, ground := Ground.guard }], guard := some (9, false) }, { dst := some 96, op := Op.move (Operand.tmp 3), type := 34, pos := "law.go:117", after := #[{ on := 12, ground := Ground.guard }], guard := some (12, true) }, { dst := some 97, op := Op.move (Operand.tmp 5), type := 44, pos := "law.go:117", after := #[{ on := 12, ground := Ground.guard }], guard := some (12, true) }, { dst := some 98, op := Op.move (Operand.tmp 6), type := 3, pos := "law.go:117", after := #[{ on := 12, ground := Ground.guard }], guard := some (12, true) }, { dst := some 99, op := Op.binOp BinOp.sub 3 (Operand.tmp 98) (Operand.const (Value.int IntKind.i64 1)) 3, type := 3, pos := "law.go:117", after := #[{ on := 15, ground := Ground.data }, { on := 12, ground := Ground.guard }], guard := some (12, true) }, { dst := some 100, op := Op.indexAddr 44 (Operand.tmp 97) (Operand.tmp 99), type := 0, pos := "law.go:117", after := #[{ on := 14, ground := Ground.data }, { on := 16, ground := Ground.data }, { on := 12, ground := Ground.guard }], guard := some (12, true) }, { dst := some 101, op := Op.load 3 (Operand.tmp 100), type := 3, pos := "law.go:117", after := #[{ on := 17, ground := Ground.data }, { on := 12, ground := Ground.guard }], guard := some (12, true) }, { dst := some 102, op := Op.indexAddr 34 (Operand.tmp 96) (Operand.tmp 101), type := 0, pos := "law.go:117", after := #[{ on := 13, ground := Ground.data }, { on := 18, ground := Ground.data }, { on := 12, ground := Ground.guard }], guard := some (12, true) }, { dst := some 103, op := Op.load 28 (Operand.tmp 102), type := 28, pos := "law.go:117", after := #[{ on := 19, ground := Ground.data }, { on := 12, ground := Ground.guard }], guard := some (12, true) }, { dst := some 104, op := Op.move (Operand.tmp 3), type := 34, pos := "law.go:117", after := #[{ on := 12, ground := Ground.guard }], guard := some (12, true) }, { dst := some 105, op := Op.move (Operand.tmp 5), type := 44, pos := "law.go:117", after := #[{ on := 12, ground := Ground.guard }], guard := some (12, true) }, { dst := some 106, op := Op.move (Operand.tmp 7), type := 3, pos := "law.go:117", after := #[{ on := 12, ground := Ground.guard }], guard := some (12, true) }, { dst := some 107, op := Op.indexAddr 44 (Operand.tmp 105) (Operand.tmp 106), type := 0, pos := "law.go:117", after := #[{ on := 22, ground := Ground.data }, { on := 23, ground := Ground.data }, { on := 12, ground := Ground.guard }], guard := some (12, true) }, { dst := some 108, op := Op.load 3 (Operand.tmp 107), type := 3, pos := "law.go:117", after := #[{ on := 24, ground := Ground.data }, { on := 12, ground := Ground.guard }], guard := some (12, true) }, { dst := some 109, op := Op.indexAddr 34 (Operand.tmp 104) (Operand.tmp 108), type := 0, pos := "law.go:117", after := #[{ on := 21, ground := Ground.data }, { on := 25, ground := Ground.data }, { on := 12, ground := Ground.guard }], guard := some (12, true) }, { dst := some 110, op := Op.load 28 (Operand.tmp 109), type := 28, pos := "law.go:117", after := #[{ on := 26, ground := Ground.data }, { on := 12, ground := Ground.guard }], guard := some (12, true) }, { dst := some 111, op := Op.call { callee := Callee.value (Operand.func 15), args := #[Operand.tmp 103, Operand.tmp 110], argTypes := #[28, 28] }, type := 3, pos := "law.go:117", after := #[{ on := 20, ground := Ground.data }, { on := 27, ground := Ground.data }, { on := 12, ground := Ground.chain }, { on := 12, ground := Ground.guard }], guard := some (12, true) }, { dst := some 112, op := Op.move (Operand.tmp 3), type := 34, pos := "law.go:117", after := #[{ on := 12, ground := Ground.guard }], guard := some (12, true) }, { dst := some 113, op := Op.move (Operand.tmp 5), type := 44, pos := "law.go:117", after := #[{ on := 12, ground := Ground.guard }], guard := some (12, true) }, { dst := some 114, op := Op.move (Operand.tmp 6), type := 3, pos := "law.go:117", after := #[{ on := 12, ground := Ground.guard }], guard := some (12, true) }, { dst := some 115, op := Op.binOp BinOp.sub 3 (Operand.tmp 114) (Operand.const (Value.int IntKind.i64 1)) 3, type := 3, pos := "law.go:117", after := #[{ on := 31, ground := Ground.data }, { on := 12, ground := Ground.guard }], guard := some (12, true) }, { dst := some 116, op := Op.indexAddr 44 (Operand.tmp 113) (Operand.tmp 115), type := 0, pos := "law.go:117", after := #[{ on := 30, ground := Ground.data }, { on := 32, ground := Ground.data }, { on := 12, ground := Ground.guard }], guard := some (12, true) }, { dst := some 117, op := Op.load 3 (Operand.tmp 116), type := 3, pos := "law.go:117", after := #[{ on := 33, ground := Ground.data }, { on := 12, ground := Ground.guard }], guard := some (12, true) }, { dst := some 118, op := Op.indexAddr 34 (Operand.tmp 112) (Operand.tmp 117), type := 0, pos := "law.go:117", after := #[{ on := 29, ground := Ground.data }, { on := 34, ground := Ground.data }, { on := 12, ground := Ground.guard }], guard := some (12, true) }, { dst := some 119, op := Op.load 28 (Operand.tmp 118), type := 28, pos := "law.go:117", after := #[{ on := 35, ground := Ground.data }, { on := 12, ground := Ground.guard }], guard := some (12, true) }, { dst := some 120, op := Op.move (Operand.tmp 3), type := 34, pos := "law.go:117", after := #[{ on := 12, ground := Ground.guard }], guard := some (12, true) }, { dst := some 121, op := Op.move (Operand.tmp 5), type := 44, pos := "law.go:117", after := #[{ on := 12, ground := Ground.guard }], guard := some (12, true) }, { dst := some 122, op := Op.move (Operand.tmp 6), type := 3, pos := "law.go:117", after := #[{ on := 12, ground := Ground.guard }], guard := some (12, true) }, { dst := some 123, op := Op.indexAddr 44 (Operand.tmp 121) (Operand.tmp 122), type := 0, pos := "law.go:117", after := #[{ on := 38, ground := Ground.data }, { on := 39, ground := Ground.data }, { on := 12, ground := Ground.guard }], guard := some (12, true) }, { dst := some 124, op := Op.load 3 (Operand.tmp 123), type := 3, pos := "law.go:117", after := #[{ on := 40, ground := Ground.data }, { on := 12, ground := Ground.guard }], guard := some (12, true) }, { dst := some 125, op := Op.indexAddr 34 (Operand.tmp 120) (Operand.tmp 124), type := 0, pos := "law.go:117", after := #[{ on := 37, ground := Ground.data }, { on := 41, ground := Ground.data }, { on := 12, ground := Ground.guard }], guard := some (12, true) }, { dst := some 126, op := Op.load 28 (Operand.tmp 125), type := 28, pos := "law.go:117", after := #[{ on := 42, ground := Ground.data }, { on := 12, ground := Ground.guard }], guard := some (12, true) }, { dst := some 127, op := Op.call { callee := Callee.value (Operand.func 15), args := #[Operand.tmp 119, Operand.tmp 126], argTypes := #[28, 28] }, type := 3, pos := "law.go:117", after := #[{ on := 36, ground := Ground.data }, { on := 43, ground := Ground.data }, { on := 28, ground := Ground.chain }, { on := 12, ground := Ground.guard }], guard := some (12, true) }, { dst := some 128, op := Op.binOp BinOp.lss 3 (Operand.tmp 111) (Operand.tmp 127) 3, type := 4, pos := "law.go:117", after := #[{ on := 28, ground := Ground.data }, { on := 44, ground := Ground.data }, { on := 12, ground := Ground.guard }], guard := some (12, true) }, { dst := some 129, op := Op.pick (Operand.tmp 95) (Operand.tmp 128) (Operand.const (Value.bool false)), type := 4, pos := "law.go:117", after := #[{ on := 12, ground := Ground.data }, { on := 45, ground := Ground.data }, { on := 9, ground := Ground.guard }], guard := some (9, false) }, { dst := some 130, op := Op.pick (Operand.tmp 92) (Operand.const (Value.bool true)) (Operand.tmp 129), type := 4, pos := "law.go:117", after := #[{ on := 9, ground := Ground.data }, { on := 46, ground := Ground.data }], guard := none }] true) Q { tmps := #[.slice (some ⟨bl_, ol, none⟩) len cap0, v1, v2, .slice (some ⟨ba, oa, none⟩) len capa, v4, .slice (some ⟨bo, oo, none⟩) len capo, .int .i64 (n : Int), .int .i64 (j : Int), v8, v9, v10, v11, v12, v13, v14, v15, v16, v17, v18, v19, v20, v21, v22, v23, v24, v25, v26, v27, v28, v29, v30, v31, v32, v33, v34, v35, v36, v37, v38, v39, v40, v41, v42, v43, v44, v45, v46, v47, v48, v49, v50, v51, v52, v53, v54, v55, v56, v57, v58, v59, v60, v61, v62, v63, v64, v65, v66, v67, v68, v69, v70, v71, v72, v73, v74, v75, v76, v77, v78, v79, v80, v81, v82, v83, v84, v85, v86, v87, v88, v89, v90, v91, v92, v93, v94, v95, v96, v97, v98, v99, v100, v101, v102, v103, v104, v105, v106, v107, v108, v109, v110, v111, v112, v113, v114, v115, v116, v117, v118, v119, v120, v121, v122, v123, v124, v125, v126, v127, v128, v129, v130, v131], defers := [] } wr := by
  refine wp_region_noPanic ?_
  refine wp_region_held_drew (S := (fun W => W.cell? ⟨bo, oo + j, none⟩ = some (.int .i64 (y : Int)) ∧ W.cell? ⟨bo, oo + n, none⟩ = some (.int .i64 (x : Int)) ∧ W.cell? ⟨bo, oo + m, none⟩ = some (.int .i64 (u : Int)) ∧ (W.cell? ⟨ba, oa + u * 4, none⟩ = some (.complex .f64 (FB (hu 0)) (FB (hu 1))) ∧ W.cell? ⟨ba, oa + u * 4 + 1, none⟩ = some (.complex .f64 (FB (hu 2)) (FB (hu 3))) ∧ W.cell? ⟨ba, oa + u * 4 + 2, none⟩ = some (.complex .f64 (FB (hu 4)) (FB (hu 5))) ∧ W.cell? ⟨ba, oa + u * 4 + 3, none⟩ = some (.complex .f64 (FB (hu 6)) (FB (hu 7)))) ∧ (W.cell? ⟨ba, oa + y * 4, none⟩ = some (.complex .f64 (FB (hy 0)) (FB (hy 1))) ∧ W.cell? ⟨ba, oa + y * 4 + 1, none⟩ = some (.complex .f64 (FB (hy 2)) (FB (hy 3))) ∧ W.cell? ⟨ba, oa + y * 4 + 2, none⟩ = some (.complex .f64 (FB (hy 4)) (FB (hy 5))) ∧ W.cell? ⟨ba, oa + y * 4 + 3, none⟩ = some (.complex .f64 (FB (hy 6)) (FB (hy 7)))) ∧ (W.cell? ⟨ba, oa + x * 4, none⟩ = some (.complex .f64 (FB (hx 0)) (FB (hx 1))) ∧ W.cell? ⟨ba, oa + x * 4 + 1, none⟩ = some (.complex .f64 (FB (hx 2)) (FB (hx 3))) ∧ W.cell? ⟨ba, oa + x * 4 + 2, none⟩ = some (.complex .f64 (FB (hx 4)) (FB (hx 5))) ∧ W.cell? ⟨ba, oa + x * 4 + 3, none⟩ = some (.complex .f64 (FB (hx 6)) (FB (hx 7)))) ∧ Below wr.heap.size wr W)) (by kernel_rfl) S9 (fun hHeld => ?_)
  refine wpAnyH_take (i := 0) (oi := { dst := some 83, op := Op.move (Operand.tmp 5), type := 44, pos := "law.go:117", after := #[], guard := none }) (v := ?_) rfl (by kernel_rfl) (by kernel_rfl) (by kernel_rfl) (fun _ _ _ h => h) (Or.inl ⟨by kernel_rfl, ?_⟩) (by assumption) ?_
  rotate_left 1
  · (intro wS hSw; (try dsimp only at hSw); go_simp; try with_reducible rfl)
  try simp only [Act.put, List.setIfInBounds_toArray, List.set_cons_zero, List.set_cons_succ]
  refine wpAnyH_take (i := 1) (oi := { dst := some 84, op := Op.move (Operand.tmp 7), type := 3, pos := "law.go:117", after := #[], guard := none }) (v := ?_) rfl (by kernel_rfl) (by kernel_rfl) (by kernel_rfl) (fun _ _ _ h => h) (Or.inl ⟨by kernel_rfl, ?_⟩) (by assumption) ?_
  rotate_left 1
  · (intro wS hSw; (try dsimp only at hSw); go_simp; try with_reducible rfl)
  try simp only [Act.put, List.setIfInBounds_toArray, List.set_cons_zero, List.set_cons_succ]
  refine wpAnyH_take (i := 2) (oi := { dst := some 85, op := Op.indexAddr 44 (Operand.tmp 83) (Operand.tmp 84), type := 0, pos := "law.go:117", after := #[{ on := 0, ground := Ground.data }, { on := 1, ground := Ground.data }], guard := none }) (v := ?_) rfl (by kernel_rfl) (by kernel_rfl) (by kernel_rfl) (fun _ _ _ h => h) (Or.inl ⟨by kernel_rfl, ?_⟩) (by assumption) ?_
  rotate_left 1
  · (intro wS hSw; (try dsimp only at hSw); go_simp; try with_reducible rfl)
  try simp only [Act.put, List.setIfInBounds_toArray, List.set_cons_zero, List.set_cons_succ]
  refine wpAnyH_take (i := 3) (oi := { dst := some 86, op := Op.load 3 (Operand.tmp 85), type := 3, pos := "law.go:117", after := #[{ on := 2, ground := Ground.data }], guard := none }) (v := ?_) rfl (by kernel_rfl) (by kernel_rfl) (by kernel_rfl) (fun _ _ _ h => h) (Or.inl ⟨by kernel_rfl, ?_⟩) (by assumption) ?_
  rotate_left 1
  · (intro wS hSw; (try dsimp only at hSw); go_simp; try with_reducible rfl)
  try simp only [Act.put, List.setIfInBounds_toArray, List.set_cons_zero, List.set_cons_succ]
  refine wpAnyH_take (i := 4) (oi := { dst := some 87, op := Op.move (Operand.tmp 5), type := 44, pos := "law.go:117", after := #[], guard := none }) (v := ?_) rfl (by kernel_rfl) (by kernel_rfl) (by kernel_rfl) (fun _ _ _ h => h) (Or.inl ⟨by kernel_rfl, ?_⟩) (by assumption) ?_
  rotate_left 1
  · (intro wS hSw; (try dsimp only at hSw); go_simp; try with_reducible rfl)
  try simp only [Act.put, List.setIfInBounds_toArray, List.set_cons_zero, List.set_cons_succ]
  refine wpAnyH_take (i := 5) (oi := { dst := some 88, op := Op.move (Operand.tmp 6), type := 3, pos := "law.go:117", after := #[], guard := none }) (v := ?_) rfl (by kernel_rfl) (by kernel_rfl) (by kernel_rfl) (fun _ _ _ h => h) (Or.inl ⟨by kernel_rfl, ?_⟩) (by assumption) ?_
  rotate_left 1
  · (intro wS hSw; (try dsimp only at hSw); go_simp; try with_reducible rfl)
  try simp only [Act.put, List.setIfInBounds_toArray, List.set_cons_zero, List.set_cons_succ]
  refine wpAnyH_take (i := 6) (oi := { dst := some 89, op := Op.indexAddr 44 (Operand.tmp 87) (Operand.tmp 88), type := 0, pos := "law.go:117", after := #[{ on := 4, ground := Ground.data }, { on := 5, ground := Ground.data }], guard := none }) (v := ?_) rfl (by kernel_rfl) (by kernel_rfl) (by kernel_rfl) (fun _ _ _ h => h) (Or.inl ⟨by kernel_rfl, ?_⟩) (by assumption) ?_
  rotate_left 1
  · (intro wS hSw; (try dsimp only at hSw); go_simp; try with_reducible rfl)
  try simp only [Act.put, List.setIfInBounds_toArray, List.set_cons_zero, List.set_cons_succ]
  refine wpAnyH_take (i := 7) (oi := { dst := some 90, op := Op.load 3 (Operand.tmp 89), type := 3, pos := "law.go:117", after := #[{ on := 6, ground := Ground.data }], guard := none }) (v := ?_) rfl (by kernel_rfl) (by kernel_rfl) (by kernel_rfl) (fun _ _ _ h => h) (Or.inl ⟨by kernel_rfl, ?_⟩) (by assumption) ?_
  rotate_left 1
  · (intro wS hSw; (try dsimp only at hSw); go_simp; try with_reducible rfl)
  try simp only [Act.put, List.setIfInBounds_toArray, List.set_cons_zero, List.set_cons_succ]
  refine wpAnyH_take (i := 8) (oi := { dst := some 91, op := Op.binOp BinOp.eql 3 (Operand.tmp 86) (Operand.tmp 90) 3, type := 4, pos := "law.go:117", after := #[{ on := 3, ground := Ground.data }, { on := 7, ground := Ground.data }], guard := none }) (v := ?_) rfl (by kernel_rfl) (by kernel_rfl) (by kernel_rfl) (fun _ _ _ h => h) (Or.inl ⟨by kernel_rfl, ?_⟩) (by assumption) ?_
  rotate_left 1
  · (intro wS hSw; (try dsimp only at hSw); go_simp; try with_reducible rfl)
  try simp only [Act.put, List.setIfInBounds_toArray, List.set_cons_zero, List.set_cons_succ]
  refine wpAnyH_take (i := 9) (oi := { dst := some 92, op := Op.move (Operand.tmp 91), type := 4, pos := "law.go:117", after := #[{ on := 8, ground := Ground.data }], guard := none }) (v := ?_) rfl (by kernel_rfl) (by kernel_rfl) (by kernel_rfl) (fun _ _ _ h => h) (Or.inl ⟨by kernel_rfl, ?_⟩) (by assumption) ?_
  rotate_left 1
  · (intro wS hSw; (try dsimp only at hSw); go_simp; try with_reducible rfl)
  try simp only [Act.put, List.setIfInBounds_toArray, List.set_cons_zero, List.set_cons_succ]
  refine wpAnyH_take (i := 10) (oi := { dst := some 93, op := Op.move (Operand.tmp 6), type := 3, pos := "law.go:117", after := #[{ on := 9, ground := Ground.guard }], guard := some (9, false) }) (v := ?_) rfl (by kernel_rfl) (by kernel_rfl) (by kernel_rfl) (fun _ _ _ h => h) (Or.inl ⟨by kernel_rfl, ?_⟩) (by assumption) ?_
  rotate_left 1
  · (intro wS hSw; (try dsimp only at hSw); go_simp; try with_reducible rfl)
  try simp only [Act.put, List.setIfInBounds_toArray, List.set_cons_zero, List.set_cons_succ]
  refine wpAnyH_take (i := 11) (oi := { dst := some 94, op := Op.binOp BinOp.gtr 3 (Operand.tmp 93) (Operand.const (Value.int IntKind.i64 0)) 3, type := 4, pos := "law.go:117", after := #[{ on := 10, ground := Ground.data }, { on := 9, ground := Ground.guard }], guard := some (9, false) }) (v := ?_) rfl (by kernel_rfl) (by kernel_rfl) (by kernel_rfl) (fun _ _ _ h => h) (Or.inl ⟨by kernel_rfl, ?_⟩) (by assumption) ?_
  rotate_left 1
  · (intro wS hSw; (try dsimp only at hSw); go_simp; try with_reducible rfl)
  try simp only [Act.put, List.setIfInBounds_toArray, List.set_cons_zero, List.set_cons_succ]
  refine wpAnyH_take (i := 12) (oi := { dst := some 95, op := Op.move (Operand.tmp 94), type := 4, pos := "law.go:117", after := #[{ on := 11, ground := Ground.data }, { on := 9, ground := Ground.chain }, { on := 9, ground := Ground.guard }], guard := some (9, false) }) (v := ?_) rfl (by kernel_rfl) (by kernel_rfl) (by kernel_rfl) (fun _ _ _ h => h) (Or.inl ⟨by kernel_rfl, ?_⟩) (by assumption) ?_
  rotate_left 1
  · (intro wS hSw; (try dsimp only at hSw); go_simp; try with_reducible rfl)
  try simp only [Act.put, List.setIfInBounds_toArray, List.set_cons_zero, List.set_cons_succ]
  refine wpAnyH_take (i := 13) (oi := { dst := some 96, op := Op.move (Operand.tmp 3), type := 34, pos := "law.go:117", after := #[{ on := 12, ground := Ground.guard }], guard := some (12, true) }) (v := ?_) rfl (by kernel_rfl) (by kernel_rfl) (by kernel_rfl) (fun _ _ _ h => h) (Or.inl ⟨by kernel_rfl, ?_⟩) (by assumption) ?_
  rotate_left 1
  · (intro wS hSw; (try dsimp only at hSw); go_simp; try with_reducible rfl)
  try simp only [Act.put, List.setIfInBounds_toArray, List.set_cons_zero, List.set_cons_succ]
  refine wpAnyH_take (i := 14) (oi := { dst := some 97, op := Op.move (Operand.tmp 5), type := 44, pos := "law.go:117", after := #[{ on := 12, ground := Ground.guard }], guard := some (12, true) }) (v := ?_) rfl (by kernel_rfl) (by kernel_rfl) (by kernel_rfl) (fun _ _ _ h => h) (Or.inl ⟨by kernel_rfl, ?_⟩) (by assumption) ?_
  rotate_left 1
  · (intro wS hSw; (try dsimp only at hSw); go_simp; try with_reducible rfl)
  try simp only [Act.put, List.setIfInBounds_toArray, List.set_cons_zero, List.set_cons_succ]
  refine wpAnyH_take (i := 15) (oi := { dst := some 98, op := Op.move (Operand.tmp 6), type := 3, pos := "law.go:117", after := #[{ on := 12, ground := Ground.guard }], guard := some (12, true) }) (v := ?_) rfl (by kernel_rfl) (by kernel_rfl) (by kernel_rfl) (fun _ _ _ h => h) (Or.inl ⟨by kernel_rfl, ?_⟩) (by assumption) ?_
  rotate_left 1
  · (intro wS hSw; (try dsimp only at hSw); go_simp; try with_reducible rfl)
  try simp only [Act.put, List.setIfInBounds_toArray, List.set_cons_zero, List.set_cons_succ]
  refine wpAnyH_take (i := 16) (oi := { dst := some 99, op := Op.binOp BinOp.sub 3 (Operand.tmp 98) (Operand.const (Value.int IntKind.i64 1)) 3, type := 3, pos := "law.go:117", after := #[{ on := 15, ground := Ground.data }, { on := 12, ground := Ground.guard }], guard := some (12, true) }) (v := ?_) rfl (by kernel_rfl) (by kernel_rfl) (by kernel_rfl) (fun _ _ _ h => h) (Or.inl ⟨by kernel_rfl, ?_⟩) (by assumption) ?_
  rotate_left 1
  · (intro wS hSw; (try dsimp only at hSw); go_simp; try with_reducible rfl)
  try simp only [Act.put, List.setIfInBounds_toArray, List.set_cons_zero, List.set_cons_succ]
  refine wpAnyH_take (i := 17) (oi := { dst := some 100, op := Op.indexAddr 44 (Operand.tmp 97) (Operand.tmp 99), type := 0, pos := "law.go:117", after := #[{ on := 14, ground := Ground.data }, { on := 16, ground := Ground.data }, { on := 12, ground := Ground.guard }], guard := some (12, true) }) (v := ?_) rfl (by kernel_rfl) (by kernel_rfl) (by kernel_rfl) (fun _ _ _ h => h) (Or.inl ⟨by kernel_rfl, ?_⟩) (by assumption) ?_
  rotate_left 1
  · (intro wS hSw; (try dsimp only at hSw); go_simp; try with_reducible rfl)
  try simp only [Act.put, List.setIfInBounds_toArray, List.set_cons_zero, List.set_cons_succ]
  refine wpAnyH_take (i := 18) (oi := { dst := some 101, op := Op.load 3 (Operand.tmp 100), type := 3, pos := "law.go:117", after := #[{ on := 17, ground := Ground.data }, { on := 12, ground := Ground.guard }], guard := some (12, true) }) (v := ?_) rfl (by kernel_rfl) (by kernel_rfl) (by kernel_rfl) (fun _ _ _ h => h) (Or.inl ⟨by kernel_rfl, ?_⟩) (by assumption) ?_
  rotate_left 1
  · (intro wS hSw; (try dsimp only at hSw); go_simp; try with_reducible rfl)
  try simp only [Act.put, List.setIfInBounds_toArray, List.set_cons_zero, List.set_cons_succ]
  refine wpAnyH_take (i := 19) (oi := { dst := some 102, op := Op.indexAddr 34 (Operand.tmp 96) (Operand.tmp 101), type := 0, pos := "law.go:117", after := #[{ on := 13, ground := Ground.data }, { on := 18, ground := Ground.data }, { on := 12, ground := Ground.guard }], guard := some (12, true) }) (v := ?_) rfl (by kernel_rfl) (by kernel_rfl) (by kernel_rfl) (fun _ _ _ h => h) (Or.inl ⟨by kernel_rfl, ?_⟩) (by assumption) ?_
  rotate_left 1
  · (intro wS hSw; (try dsimp only at hSw); go_simp; try with_reducible rfl)
  try simp only [Act.put, List.setIfInBounds_toArray, List.set_cons_zero, List.set_cons_succ]
  refine wpAnyH_take (i := 20) (oi := { dst := some 103, op := Op.load 28 (Operand.tmp 102), type := 28, pos := "law.go:117", after := #[{ on := 19, ground := Ground.data }, { on := 12, ground := Ground.guard }], guard := some (12, true) }) (v := ?_) rfl (by kernel_rfl) (by kernel_rfl) (by kernel_rfl) (fun _ _ _ h => h) (Or.inl ⟨by kernel_rfl, ?_⟩) (by assumption) ?_
  rotate_left 1
  · (intro wS hSw; (try dsimp only at hSw); go_simp; try with_reducible rfl)
  try simp only [Act.put, List.setIfInBounds_toArray, List.set_cons_zero, List.set_cons_succ]
  refine wpAnyH_take (i := 21) (oi := { dst := some 104, op := Op.move (Operand.tmp 3), type := 34, pos := "law.go:117", after := #[{ on := 12, ground := Ground.guard }], guard := some (12, true) }) (v := ?_) rfl (by kernel_rfl) (by kernel_rfl) (by kernel_rfl) (fun _ _ _ h => h) (Or.inl ⟨by kernel_rfl, ?_⟩) (by assumption) ?_
  rotate_left 1
  · (intro wS hSw; (try dsimp only at hSw); go_simp; try with_reducible rfl)
  try simp only [Act.put, List.setIfInBounds_toArray, List.set_cons_zero, List.set_cons_succ]
  refine wpAnyH_take (i := 22) (oi := { dst := some 105, op := Op.move (Operand.tmp 5), type := 44, pos := "law.go:117", after := #[{ on := 12, ground := Ground.guard }], guard := some (12, true) }) (v := ?_) rfl (by kernel_rfl) (by kernel_rfl) (by kernel_rfl) (fun _ _ _ h => h) (Or.inl ⟨by kernel_rfl, ?_⟩) (by assumption) ?_
  rotate_left 1
  · (intro wS hSw; (try dsimp only at hSw); go_simp; try with_reducible rfl)
  try simp only [Act.put, List.setIfInBounds_toArray, List.set_cons_zero, List.set_cons_succ]
  refine wpAnyH_take (i := 23) (oi := { dst := some 106, op := Op.move (Operand.tmp 7), type := 3, pos := "law.go:117", after := #[{ on := 12, ground := Ground.guard }], guard := some (12, true) }) (v := ?_) rfl (by kernel_rfl) (by kernel_rfl) (by kernel_rfl) (fun _ _ _ h => h) (Or.inl ⟨by kernel_rfl, ?_⟩) (by assumption) ?_
  rotate_left 1
  · (intro wS hSw; (try dsimp only at hSw); go_simp; try with_reducible rfl)
  try simp only [Act.put, List.setIfInBounds_toArray, List.set_cons_zero, List.set_cons_succ]
  refine wpAnyH_take (i := 24) (oi := { dst := some 107, op := Op.indexAddr 44 (Operand.tmp 105) (Operand.tmp 106), type := 0, pos := "law.go:117", after := #[{ on := 22, ground := Ground.data }, { on := 23, ground := Ground.data }, { on := 12, ground := Ground.guard }], guard := some (12, true) }) (v := ?_) rfl (by kernel_rfl) (by kernel_rfl) (by kernel_rfl) (fun _ _ _ h => h) (Or.inl ⟨by kernel_rfl, ?_⟩) (by assumption) ?_
  rotate_left 1
  · (intro wS hSw; (try dsimp only at hSw); go_simp; try with_reducible rfl)
  try simp only [Act.put, List.setIfInBounds_toArray, List.set_cons_zero, List.set_cons_succ]
  refine wpAnyH_take (i := 25) (oi := { dst := some 108, op := Op.load 3 (Operand.tmp 107), type := 3, pos := "law.go:117", after := #[{ on := 24, ground := Ground.data }, { on := 12, ground := Ground.guard }], guard := some (12, true) }) (v := ?_) rfl (by kernel_rfl) (by kernel_rfl) (by kernel_rfl) (fun _ _ _ h => h) (Or.inl ⟨by kernel_rfl, ?_⟩) (by assumption) ?_
  rotate_left 1
  · (intro wS hSw; (try dsimp only at hSw); go_simp; try with_reducible rfl)
  try simp only [Act.put, List.setIfInBounds_toArray, List.set_cons_zero, List.set_cons_succ]
  refine wpAnyH_take (i := 26) (oi := { dst := some 109, op := Op.indexAddr 34 (Operand.tmp 104) (Operand.tmp 108), type := 0, pos := "law.go:117", after := #[{ on := 21, ground := Ground.data }, { on := 25, ground := Ground.data }, { on := 12, ground := Ground.guard }], guard := some (12, true) }) (v := ?_) rfl (by kernel_rfl) (by kernel_rfl) (by kernel_rfl) (fun _ _ _ h => h) (Or.inl ⟨by kernel_rfl, ?_⟩) (by assumption) ?_
  rotate_left 1
  · (intro wS hSw; (try dsimp only at hSw); go_simp; try with_reducible rfl)
  try simp only [Act.put, List.setIfInBounds_toArray, List.set_cons_zero, List.set_cons_succ]
  refine wpAnyH_take (i := 27) (oi := { dst := some 110, op := Op.load 28 (Operand.tmp 109), type := 28, pos := "law.go:117", after := #[{ on := 26, ground := Ground.data }, { on := 12, ground := Ground.guard }], guard := some (12, true) }) (v := ?_) rfl (by kernel_rfl) (by kernel_rfl) (by kernel_rfl) (fun _ _ _ h => h) (Or.inl ⟨by kernel_rfl, ?_⟩) (by assumption) ?_
  rotate_left 1
  · (intro wS hSw; (try dsimp only at hSw); go_simp; try with_reducible rfl)
  try simp only [Act.put, List.setIfInBounds_toArray, List.set_cons_zero, List.set_cons_succ]
  refine wpAnyH_take (i := 29) (oi := { dst := some 112, op := Op.move (Operand.tmp 3), type := 34, pos := "law.go:117", after := #[{ on := 12, ground := Ground.guard }], guard := some (12, true) }) (v := ?_) rfl (by kernel_rfl) (by kernel_rfl) (by kernel_rfl) (fun _ _ _ h => h) (Or.inl ⟨by kernel_rfl, ?_⟩) (by assumption) ?_
  rotate_left 1
  · (intro wS hSw; (try dsimp only at hSw); go_simp; try with_reducible rfl)
  try simp only [Act.put, List.setIfInBounds_toArray, List.set_cons_zero, List.set_cons_succ]
  refine wpAnyH_take (i := 30) (oi := { dst := some 113, op := Op.move (Operand.tmp 5), type := 44, pos := "law.go:117", after := #[{ on := 12, ground := Ground.guard }], guard := some (12, true) }) (v := ?_) rfl (by kernel_rfl) (by kernel_rfl) (by kernel_rfl) (fun _ _ _ h => h) (Or.inl ⟨by kernel_rfl, ?_⟩) (by assumption) ?_
  rotate_left 1
  · (intro wS hSw; (try dsimp only at hSw); go_simp; try with_reducible rfl)
  try simp only [Act.put, List.setIfInBounds_toArray, List.set_cons_zero, List.set_cons_succ]
  refine wpAnyH_take (i := 31) (oi := { dst := some 114, op := Op.move (Operand.tmp 6), type := 3, pos := "law.go:117", after := #[{ on := 12, ground := Ground.guard }], guard := some (12, true) }) (v := ?_) rfl (by kernel_rfl) (by kernel_rfl) (by kernel_rfl) (fun _ _ _ h => h) (Or.inl ⟨by kernel_rfl, ?_⟩) (by assumption) ?_
  rotate_left 1
  · (intro wS hSw; (try dsimp only at hSw); go_simp; try with_reducible rfl)
  try simp only [Act.put, List.setIfInBounds_toArray, List.set_cons_zero, List.set_cons_succ]
  refine wpAnyH_take (i := 32) (oi := { dst := some 115, op := Op.binOp BinOp.sub 3 (Operand.tmp 114) (Operand.const (Value.int IntKind.i64 1)) 3, type := 3, pos := "law.go:117", after := #[{ on := 31, ground := Ground.data }, { on := 12, ground := Ground.guard }], guard := some (12, true) }) (v := ?_) rfl (by kernel_rfl) (by kernel_rfl) (by kernel_rfl) (fun _ _ _ h => h) (Or.inl ⟨by kernel_rfl, ?_⟩) (by assumption) ?_
  rotate_left 1
  · (intro wS hSw; (try dsimp only at hSw); go_simp; try with_reducible rfl)
  try simp only [Act.put, List.setIfInBounds_toArray, List.set_cons_zero, List.set_cons_succ]
  refine wpAnyH_take (i := 33) (oi := { dst := some 116, op := Op.indexAddr 44 (Operand.tmp 113) (Operand.tmp 115), type := 0, pos := "law.go:117", after := #[{ on := 30, ground := Ground.data }, { on := 32, ground := Ground.data }, { on := 12, ground := Ground.guard }], guard := some (12, true) }) (v := ?_) rfl (by kernel_rfl) (by kernel_rfl) (by kernel_rfl) (fun _ _ _ h => h) (Or.inl ⟨by kernel_rfl, ?_⟩) (by assumption) ?_
  rotate_left 1
  · (intro wS hSw; (try dsimp only at hSw); go_simp; try with_reducible rfl)
  try simp only [Act.put, List.setIfInBounds_toArray, List.set_cons_zero, List.set_cons_succ]
  refine wpAnyH_take (i := 34) (oi := { dst := some 117, op := Op.load 3 (Operand.tmp 116), type := 3, pos := "law.go:117", after := #[{ on := 33, ground := Ground.data }, { on := 12, ground := Ground.guard }], guard := some (12, true) }) (v := ?_) rfl (by kernel_rfl) (by kernel_rfl) (by kernel_rfl) (fun _ _ _ h => h) (Or.inl ⟨by kernel_rfl, ?_⟩) (by assumption) ?_
  rotate_left 1
  · (intro wS hSw; (try dsimp only at hSw); go_simp; try with_reducible rfl)
  try simp only [Act.put, List.setIfInBounds_toArray, List.set_cons_zero, List.set_cons_succ]
  refine wpAnyH_take (i := 35) (oi := { dst := some 118, op := Op.indexAddr 34 (Operand.tmp 112) (Operand.tmp 117), type := 0, pos := "law.go:117", after := #[{ on := 29, ground := Ground.data }, { on := 34, ground := Ground.data }, { on := 12, ground := Ground.guard }], guard := some (12, true) }) (v := ?_) rfl (by kernel_rfl) (by kernel_rfl) (by kernel_rfl) (fun _ _ _ h => h) (Or.inl ⟨by kernel_rfl, ?_⟩) (by assumption) ?_
  rotate_left 1
  · (intro wS hSw; (try dsimp only at hSw); go_simp; try with_reducible rfl)
  try simp only [Act.put, List.setIfInBounds_toArray, List.set_cons_zero, List.set_cons_succ]
  refine wpAnyH_take (i := 36) (oi := { dst := some 119, op := Op.load 28 (Operand.tmp 118), type := 28, pos := "law.go:117", after := #[{ on := 35, ground := Ground.data }, { on := 12, ground := Ground.guard }], guard := some (12, true) }) (v := ?_) rfl (by kernel_rfl) (by kernel_rfl) (by kernel_rfl) (fun _ _ _ h => h) (Or.inl ⟨by kernel_rfl, ?_⟩) (by assumption) ?_
  rotate_left 1
  · (intro wS hSw; (try dsimp only at hSw); go_simp; try with_reducible rfl)
  try simp only [Act.put, List.setIfInBounds_toArray, List.set_cons_zero, List.set_cons_succ]
  refine wpAnyH_take (i := 37) (oi := { dst := some 120, op := Op.move (Operand.tmp 3), type := 34, pos := "law.go:117", after := #[{ on := 12, ground := Ground.guard }], guard := some (12, true) }) (v := ?_) rfl (by kernel_rfl) (by kernel_rfl) (by kernel_rfl) (fun _ _ _ h => h) (Or.inl ⟨by kernel_rfl, ?_⟩) (by assumption) ?_
  rotate_left 1
  · (intro wS hSw; (try dsimp only at hSw); go_simp; try with_reducible rfl)
  try simp only [Act.put, List.setIfInBounds_toArray, List.set_cons_zero, List.set_cons_succ]
  refine wpAnyH_take (i := 38) (oi := { dst := some 121, op := Op.move (Operand.tmp 5), type := 44, pos := "law.go:117", after := #[{ on := 12, ground := Ground.guard }], guard := some (12, true) }) (v := ?_) rfl (by kernel_rfl) (by kernel_rfl) (by kernel_rfl) (fun _ _ _ h => h) (Or.inl ⟨by kernel_rfl, ?_⟩) (by assumption) ?_
  rotate_left 1
  · (intro wS hSw; (try dsimp only at hSw); go_simp; try with_reducible rfl)
  try simp only [Act.put, List.setIfInBounds_toArray, List.set_cons_zero, List.set_cons_succ]
  refine wpAnyH_take (i := 39) (oi := { dst := some 122, op := Op.move (Operand.tmp 6), type := 3, pos := "law.go:117", after := #[{ on := 12, ground := Ground.guard }], guard := some (12, true) }) (v := ?_) rfl (by kernel_rfl) (by kernel_rfl) (by kernel_rfl) (fun _ _ _ h => h) (Or.inl ⟨by kernel_rfl, ?_⟩) (by assumption) ?_
  rotate_left 1
  · (intro wS hSw; (try dsimp only at hSw); go_simp; try with_reducible rfl)
  try simp only [Act.put, List.setIfInBounds_toArray, List.set_cons_zero, List.set_cons_succ]
  refine wpAnyH_take (i := 40) (oi := { dst := some 123, op := Op.indexAddr 44 (Operand.tmp 121) (Operand.tmp 122), type := 0, pos := "law.go:117", after := #[{ on := 38, ground := Ground.data }, { on := 39, ground := Ground.data }, { on := 12, ground := Ground.guard }], guard := some (12, true) }) (v := ?_) rfl (by kernel_rfl) (by kernel_rfl) (by kernel_rfl) (fun _ _ _ h => h) (Or.inl ⟨by kernel_rfl, ?_⟩) (by assumption) ?_
  rotate_left 1
  · (intro wS hSw; (try dsimp only at hSw); go_simp; try with_reducible rfl)
  try simp only [Act.put, List.setIfInBounds_toArray, List.set_cons_zero, List.set_cons_succ]
  refine wpAnyH_take (i := 41) (oi := { dst := some 124, op := Op.load 3 (Operand.tmp 123), type := 3, pos := "law.go:117", after := #[{ on := 40, ground := Ground.data }, { on := 12, ground := Ground.guard }], guard := some (12, true) }) (v := ?_) rfl (by kernel_rfl) (by kernel_rfl) (by kernel_rfl) (fun _ _ _ h => h) (Or.inl ⟨by kernel_rfl, ?_⟩) (by assumption) ?_
  rotate_left 1
  · (intro wS hSw; (try dsimp only at hSw); go_simp; try with_reducible rfl)
  try simp only [Act.put, List.setIfInBounds_toArray, List.set_cons_zero, List.set_cons_succ]
  refine wpAnyH_take (i := 42) (oi := { dst := some 125, op := Op.indexAddr 34 (Operand.tmp 120) (Operand.tmp 124), type := 0, pos := "law.go:117", after := #[{ on := 37, ground := Ground.data }, { on := 41, ground := Ground.data }, { on := 12, ground := Ground.guard }], guard := some (12, true) }) (v := ?_) rfl (by kernel_rfl) (by kernel_rfl) (by kernel_rfl) (fun _ _ _ h => h) (Or.inl ⟨by kernel_rfl, ?_⟩) (by assumption) ?_
  rotate_left 1
  · (intro wS hSw; (try dsimp only at hSw); go_simp; try with_reducible rfl)
  try simp only [Act.put, List.setIfInBounds_toArray, List.set_cons_zero, List.set_cons_succ]
  refine wpAnyH_take (i := 43) (oi := { dst := some 126, op := Op.load 28 (Operand.tmp 125), type := 28, pos := "law.go:117", after := #[{ on := 42, ground := Ground.data }, { on := 12, ground := Ground.guard }], guard := some (12, true) }) (v := ?_) rfl (by kernel_rfl) (by kernel_rfl) (by kernel_rfl) (fun _ _ _ h => h) (Or.inl ⟨by kernel_rfl, ?_⟩) (by assumption) ?_
  rotate_left 1
  · (intro wS hSw; (try dsimp only at hSw); go_simp; try with_reducible rfl)
  try simp only [Act.put, List.setIfInBounds_toArray, List.set_cons_zero, List.set_cons_succ]
  refine wpAnyH_ready (rs := [28]) (by kernel_rfl) (by simp) ?_
  refine AllReadyH.cons (o := { dst := some 111, op := Op.call { callee := Callee.value (Operand.func 15), args := #[Operand.tmp 103, Operand.tmp 110], argTypes := #[28, 28] }, type := 3, pos := "law.go:117", after := #[{ on := 20, ground := Ground.data }, { on := 27, ground := Ground.data }, { on := 12, ground := Ground.chain }, { on := 12, ground := Ground.guard }], guard := some (12, true) }) rfl (fun K hK => ?_) AllReadyH.nil
  go_simp
  refine (HF1.out _).mono ?_
  rintro e wa1 ⟨rfl, ba1⟩
  have Sa1 := SY.keep S9 ba1
  refine hK.out _ _ Sa1 (fun hHeld1 => ?_)
  clear hK K
  try simp only [Act.put, List.setIfInBounds_toArray, List.set_cons_zero, List.set_cons_succ]
  refine wpAnyH_ready (rs := [44]) (by kernel_rfl) (by simp) ?_
  refine AllReadyH.cons (o := { dst := some 127, op := Op.call { callee := Callee.value (Operand.func 15), args := #[Operand.tmp 119, Operand.tmp 126], argTypes := #[28, 28] }, type := 3, pos := "law.go:117", after := #[{ on := 36, ground := Ground.data }, { on := 43, ground := Ground.data }, { on := 28, ground := Ground.chain }, { on := 12, ground := Ground.guard }], guard := some (12, true) }) rfl (fun K hK => ?_) AllReadyH.nil
  go_simp
  refine (HF2.out _).mono ?_
  rintro e wa2 ⟨rfl, ba2⟩
  have Sa2 := SY.keep Sa1 ba2
  refine hK.out _ _ Sa2 (fun hHeld2 => ?_)
  clear hK K
  try simp only [Act.put, List.setIfInBounds_toArray, List.set_cons_zero, List.set_cons_succ]
  refine wpAnyH_take (i := 45) (oi := { dst := some 128, op := Op.binOp BinOp.lss 3 (Operand.tmp 111) (Operand.tmp 127) 3, type := 4, pos := "law.go:117", after := #[{ on := 28, ground := Ground.data }, { on := 44, ground := Ground.data }, { on := 12, ground := Ground.guard }], guard := some (12, true) }) (v := ?_) rfl (by kernel_rfl) (by kernel_rfl) (by kernel_rfl) (fun _ _ _ h => h) (Or.inl ⟨by kernel_rfl, ?_⟩) (by assumption) ?_
  rotate_left 1
  · (intro wS hSw; (try dsimp only at hSw); go_simp; try with_reducible rfl)
  try simp only [Act.put, List.setIfInBounds_toArray, List.set_cons_zero, List.set_cons_succ]
  refine wpAnyH_take (i := 46) (oi := { dst := some 129, op := Op.pick (Operand.tmp 95) (Operand.tmp 128) (Operand.const (Value.bool false)), type := 4, pos := "law.go:117", after := #[{ on := 12, ground := Ground.data }, { on := 45, ground := Ground.data }, { on := 9, ground := Ground.guard }], guard := some (9, false) }) (v := ?_) rfl (by kernel_rfl) (by kernel_rfl) (by kernel_rfl) (fun _ _ _ h => h) (Or.inl ⟨by kernel_rfl, ?_⟩) (by assumption) ?_
  rotate_left 1
  · (intro wS hSw; (try dsimp only at hSw); go_simp; try with_reducible rfl)
  try simp only [Act.put, List.setIfInBounds_toArray, List.set_cons_zero, List.set_cons_succ]
  refine wpAnyH_take (i := 47) (oi := { dst := some 130, op := Op.pick (Operand.tmp 92) (Operand.const (Value.bool true)) (Operand.tmp 129), type := 4, pos := "law.go:117", after := #[{ on := 9, ground := Ground.data }, { on := 46, ground := Ground.data }], guard := none }) (v := ?_) rfl (by kernel_rfl) (by kernel_rfl) (by kernel_rfl) (fun _ _ _ h => h) (Or.inl ⟨by kernel_rfl, ?_⟩) (by assumption) ?_
  rotate_left 1
  · (intro wS hSw; (try dsimp only at hSw); go_simp; try with_reducible rfl)
  try simp only [Act.put, List.setIfInBounds_toArray, List.set_cons_zero, List.set_cons_succ]
  refine wpAnyH_done (by kernel_rfl) ?_ _
  refine NoPanic.normal ?_
  exact hQ wa2 _ _ _ _ _ _ _ _ _ _ _ _ _ _ _ _ _ _ _ _ _ _ _ _ _ _ _ _ _ _ _ _ _ _ _ _ _ _ _ _ _ _ _ _ _ _ _ Sa2.2.2.2.2.2.2
end Go.Proofs.Ytmcaapgcplhhmaa
