import Derived.Test.YtlbclfponongbaaO15
import Derived.Test.YtlbclfponongbaaSh
/- Entries sorted by their names. -/
namespace Go.Proofs.Ytlbclfponongbaa
open Go.RowKit Go.Sort Classical
def encE (e : Ent) : List Value := (arr 34 (ev e)).toList
theorem encE_len (e : Ent) : (encE e).length = 34 := by unfold encE; rw [Array.length_toList, arr_size]
theorem encE_arr (e : Ent) : (encE e).toArray = arr 34 (ev e) := Array.toArray_toList
theorem encE_one (e : Ent) : ∀ v ∈ encE e, v.oneCell' = true := by
  intro v hv
  unfold encE arr at hv
  rw [Array.mem_toList_iff, Array.mem_ofFn] at hv
  obtain ⟨i, rfl⟩ := hv
  exact ev_one e i
theorem encE_get (e : Ent) (c : Nat) (hc : c < 34) : (encE e)[c]! = ev e c := by
  rw [getElem!_pos (encE e) c (by rw [encE_len]; exact hc)]
  have h : (encE e)[c]? = some (ev e c) := by unfold encE; rw [Array.getElem?_toList]; exact arr_get _ _ _ hc
  exact (List.getElem?_eq_some_iff.1 h).2
def cfE (x y : Ent) : Int := Lib.compareBytes x.name y.name
theorem ltE (x y : Ent) : ltOf cfE x y = Op.bytesLess x.name y.name := cmp_less _ _
theorem swoE : SWO (ltOf cfE) where
  irrefl x := by rw [ltE]; exact bl_irrefl _
  trans x y z h1 h2 := by rw [ltE] at *; exact bl_trans _ _ _ h1 h2
  ntrans x y z h1 h2 := by
    rw [ltE] at *
    cases c : Op.bytesLess x.name z.name
    · rfl
    · cases c2 : Op.bytesLess y.name x.name
      · have e := bl_tri _ _ h1 c2
        rw [e, h2] at c
        cases c
      · have := bl_trans _ _ _ c2 c
        rw [h2] at this
        cases this
theorem bs_list (l : List UInt8) : (bs l).data.toList = l := by simp [bs]
set_option maxHeartbeats 1000000 in
set_option maxRecDepth 100000 in
theorem cmp_any (x y : Ent) (W : World) : Calls Try.prog 26 #[.agg (arr 34 (ev x)), .agg (arr 34 (ev y))] W fun e w' => e = .returned (.int .i64 (cfE x y)) ∧ ∃ q os', w' = grow (W.drewN q) os' := by
  have HC := fun W' => strings_Compare (bs x.name) (bs y.name) W'
  rw [bs_list, bs_list] at HC
  change ∀ W', Calls Try.prog 27 #[.string (bs x.name), .string (bs y.name)] W' fun e w' => e = .returned (.int .i64 (cfE x y)) ∧ w' = W' at HC
  have G : Hid ((W.alloc (.cells (arr 34 (ev x)) 37)).alloc (.cells (arr 34 (ev y)) 37) = grow (W.drewN 0) (#[.cells (arr 34 (ev x)) 37] ++ #[.cells (arr 34 (ev y)) 37])) := by
    show _ = _
    rw [alloc_eq_grow, alloc_eq_grow, grow_grow]; rfl
  have B0 : Blk ((W.alloc (.cells (arr 34 (ev x)) 37)).alloc (.cells (arr 34 (ev y)) 37)) W.heap.size 37 34 (ev x) := Blk.newAt _ (heap_alloc2_old W _ _) rfl
  have B1 : Blk ((W.alloc (.cells (arr 34 (ev x)) 37)).alloc (.cells (arr 34 (ev y)) 37)) (W.heap.size + 1) 37 34 (ev y) := Blk.newAt _ (heap_alloc2_new W _ _) rfl
  have c0 := B0.cell 0 (by omega)
  have c1 := B1.cell 0 (by omega)
  rw [show ev x 0 = .string (bs x.name) from rfl] at c0
  rw [show ev y 0 = .string (bs y.name) from rfl] at c1
  have HC := Lib.hid HC
  clear B0 B1
  generalize cfE x y = r at HC ⊢
  generalize bs x.name = sx at HC c0
  generalize bs y.name = sy at HC c1
  go_enter Try.func26, Try.ntmps26
  go_upto_region 1 with fail
  change Code.wp _ _ _ _ ((W.alloc (.cells (arr 34 (ev x)) 37)).alloc (.cells (arr 34 (ev y)) 37))
  generalize (W.alloc (.cells (arr 34 (ev x)) 37)).alloc (.cells (arr 34 (ev y)) 37) = w2 at G c0 c1 ⊢
  go_wp2_with fail
  refine (HC.out _).mono ?_
  rintro e w3 ⟨rfl, rfl⟩
  go_wp2
  go_ret
  exact ⟨rfl, 0, _, G.out⟩
end Go.Proofs.Ytlbclfponongbaa
