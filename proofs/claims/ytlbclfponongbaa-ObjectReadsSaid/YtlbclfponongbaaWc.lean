import Derived.Test.YtlbclfponongbaaO13m
/- The writer's calls with one part. -/
namespace Go.Proofs.Ytlbclfponongbaa
open Go.RowKit
theorem num_call {K : Nat → Prop} {w : World} {h : Nat} {l : List UInt8} (hw : Wr K w h l) (n : Int) (b : Nat) (hb : b = w.heap.size) (hl : l.length ≤ 1099511627776) :
    Calls Try.prog 29 #[.pointer (some ⟨h, 0, none⟩), .slice (some ⟨b, 0, none⟩) 1 1] (w.alloc (.cells #[.int .i64 n] 3)) fun e w' => e = .returned (.tuple #[]) ∧ Wr K w' h (l ++ dg (clamp n)) ∧ Keep K w w' := by
  subst hb
  refine (wnum1_any n w.heap.size (hw.alloc _) (cell_of_one (heap_alloc_new _ _)) (by have := hw.lt; omega) hl).mono ?_
  rintro e w' ⟨h1, h2, h3⟩
  exact ⟨h1, h2, ((Keep.refl K w).alloc _).trans h3⟩
theorem text_call {K : Nat → Prop} {w : World} {h : Nat} {l : List UInt8} (hw : Wr K w h l) (s : List UInt8) (b : Nat) (hb : b = w.heap.size) (hl : l.length + s.length ≤ 1099511627770) :
    Calls Try.prog 22 #[.pointer (some ⟨h, 0, none⟩), .slice (some ⟨b, 0, none⟩) 1 1] (w.alloc (.cells #[.string (bs s)] 9)) fun e w' => e = .returned (.tuple #[]) ∧ Wr K w' h (l ++ tx s) ∧ Keep K w w' := by
  subst hb
  refine (wtext_any s w.heap.size (hw.alloc _) (cell_of_one (heap_alloc_new _ _)) hl).mono ?_
  rintro e w' ⟨h1, h2, h3⟩
  exact ⟨h1, h2, ((Keep.refl K w).alloc _).trans h3⟩
theorem raw_call {K : Nat → Prop} {w : World} {h : Nat} {l : List UInt8} (hw : Wr K w h l) (s : List UInt8) (b : Nat) (hb : b = w.heap.size) (hl : l.length + s.length ≤ 1099511627770) :
    Calls Try.prog 21 #[.pointer (some ⟨h, 0, none⟩), .slice (some ⟨b, 0, none⟩) 1 1] (w.alloc (.cells #[.string (bs s)] 9)) fun e w' => e = .returned (.tuple #[]) ∧ Wr K w' h (l ++ s) ∧ Keep K w w' := by
  subst hb
  refine (wraw_any s w.heap.size (hw.alloc _) (cell_of_one (heap_alloc_new _ _)) (by omega)).mono ?_
  rintro e w' ⟨h1, h2, h3⟩
  exact ⟨h1, h2, ((Keep.refl K w).alloc _).trans h3⟩
theorem id_call {K : Nat → Prop} {w : World} {h : Nat} {l : List UInt8} (hw : Wr K w h l) (f : Nat → UInt8) (cs : Array Value) (b : Nat) (hb : b = w.heap.size) (hcs : cs = arr 32 (bv f)) (hl : l.length ≤ 1099511627776) :
    Calls Try.prog 30 #[.pointer (some ⟨h, 0, none⟩), .slice (some ⟨b, 0, none⟩) 1 1] (w.alloc (.cells cs 35)) fun e w' => e = .returned (.tuple #[]) ∧ Wr K w' h (l ++ idL f) ∧ Keep K w w' := by
  subst hb
  subst hcs
  refine (wid_any f w.heap.size 35 (hw.alloc _) (Blk.newAt _ (heap_alloc_new _ _) rfl) hl).mono ?_
  rintro e w' ⟨h1, h2, h3⟩
  exact ⟨h1, h2, ((Keep.refl K w).alloc _).trans h3⟩
end Go.Proofs.Ytlbclfponongbaa
