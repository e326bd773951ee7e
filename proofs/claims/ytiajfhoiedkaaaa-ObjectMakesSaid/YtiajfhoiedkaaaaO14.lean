import Derived.Test.YtiajfhoiedkaaaaO13
/- Whether an object may be; its frame. -/
namespace Go.Proofs.Ytiajfhoiedkaaaa
open Go.RowKit Classical
set_option maxHeartbeats 2000000 in
set_option maxRecDepth 100000 in
theorem right_any (k : Int) (l : List UInt8) (w : World) :
    Calls Try.prog 32 #[.agg #[.int .i64 k, .string (bs l)]] w fun e w' => e = .returned (.bool (decide (objOk k l))) ∧ Below w.heap.size w w' := by
  have HR := Lib.hid (fun W => read_any k l W)
  have L0 : Hid (Below w.heap.size w (w.alloc (.cells #[.int .i64 k, .string (bs l)] 24))) := (Below.refl _ _).alloc (Nat.le_refl _) _
  generalize decide (objOk k l) = b at HR ⊢
  generalize bs l = sb at HR L0 ⊢
  go_enter Try.func32, Try.ntmps32
  go_wp2_with fail
  refine (HR.out _).mono ?_
  rintro e w2 ⟨v, t, pv, s, rfl, S2, o1, o2, -, L2⟩
  have L3 := Lib.hid (L0.out.trans (L2.mono L0.out.size))
  have L4 := Lib.hid (L3.out.alloc L3.out.size (.cells (arr 35 (sv v t pv s)) 84))
  clear S2 L2 L3 L0 HR
  go_wp2_with (refine wpList_store_blk rfl 84 (.tmp 3) (.tmp 8) rfl w2.heap.size 35 (sv v t pv s) sv0 rfl rfl 84 (Blk.newAt _ (heap_alloc_new _ _) rfl) szSaid (fun i _ => sv_one _ o1 _ _ o2 _ i) ?_)
  rw [World.setRow_alloc_new]
  generalize w2.alloc (.cells (arr 35 (sv v t pv s)) 84) = w3 at L4 ⊢
  go_wp2
  go_ret
  exact ⟨rfl, L4.out⟩
end Go.Proofs.Ytiajfhoiedkaaaa
