import Derived.Test.YtnfhnkplkbpmpaaDoorW11
namespace Go.Proofs.YtnfhnkplkbpmpaaDoor
open Go.RowKit
theorem hexL_uh (s : ByteArray) (h : uok s = true) : (⟨(hexL (uh s) 32).toArray⟩ : ByteArray) = s := by
  have h2 := h
  unfold uok at h2
  rw [Bool.and_eq_true, decide_eq_true_eq, okF_iff] at h2
  obtain ⟨h64, hok⟩ := h2
  have hs : s.data.size = 64 := h64
  have e : (hexL (uh s) 32).toArray = s.data := by
    apply Array.ext
    · rw [List.size_toArray, hexL_length, hs]
    · intro i h1 h2
      have hi : i < 64 := by omega
      have g := hexL_get (uh s) 32 i hi
      have hl : i < (hexL (uh s) 32).length := by rw [hexL_length]; exact hi
      rw [List.getElem?_eq_getElem hl] at g
      rw [List.getElem_toArray, Option.some.inj g]
      have e1 : hexAt (uh s) i = hexAt (unhexAt (sAt s)) i := by unfold hexAt uh; rw [if_pos h]
      rw [e1, hexAt_unhex _ _ (hok i hi)]
      unfold sAt
      rw [List.getD_eq_getElem?_getD, Array.getElem?_toList, Array.getElem?_eq_getElem h2]; rfl
  rw [e]
theorem uh_no (s : ByteArray) (h : uok s = false) : uh s = fun _ => 0 := funext fun i => by unfold uh; rw [h]; rfl
theorem zero_lit : (#[.int .u8 0, .int .u8 0, .int .u8 0, .int .u8 0, .int .u8 0, .int .u8 0, .int .u8 0, .int .u8 0, .int .u8 0, .int .u8 0, .int .u8 0, .int .u8 0, .int .u8 0, .int .u8 0, .int .u8 0, .int .u8 0, .int .u8 0, .int .u8 0, .int .u8 0, .int .u8 0, .int .u8 0, .int .u8 0, .int .u8 0, .int .u8 0, .int .u8 0, .int .u8 0, .int .u8 0, .int .u8 0, .int .u8 0, .int .u8 0, .int .u8 0, .int .u8 0] : Array Value) = arr 32 (bv fun _ => 0) := rfl
theorem eq_arr (f g : Nat → UInt8) (h : ∀ i, i < 32 → f i = g i) (w : World) : (binOp .eql 26 (.agg (arr 32 (bv f))) (.agg (arr 32 (bv g)))).run Tryd.prog w = .ok (.bool true) w := by
  rw [run_eql_arr8 w 26 5 32 f g ty26 ty5 sz5, decide_eq_true h]
set_option maxHeartbeats 2000000 in
set_option maxRecDepth 100000 in
theorem back_any (f : Nat → UInt8) (s : ByteArray) (w : World) (hs : s.size ≤ 9223372036854775807) (hk : ∀ i, i < 64 → w.cell? ⟨0, i, none⟩ = some (wv kk i)) :
    Calls Tryd.prog 7 #[.agg (arr 32 (bv f)), .string s] w fun e w' => e = .returned (.bool true) ∧ Below w.heap.size w w' := by
  have h0 : 0 < w.heap.size := block_lt_of_cell (hk 0 (by omega))
  have HKW : Hid (∀ w', Below w.heap.size w w' → ∀ i, i < 64 → w'.cell? ⟨0, i, none⟩ = some (wv kk i)) := fun w' L i hi => by rw [L.cell h0]; exact hk i hi
  clear hk
  have L0 : ∀ A, Below w.heap.size w (w.alloc A) := fun A => (Below.refl _ _).alloc (Nat.le_refl _) _
  have B0 : Blk (w.alloc (.cells (arr 32 (bv f)) 26)) w.heap.size 26 32 (bv f) := Blk.newAt _ (heap_alloc_new _ _) rfl
  go_enter Tryd.func7, Tryd.ntmps7
  go_wp2_with fail
  refine (alive_any _ (HKW.out _ (L0 _))).mono ?_
  rintro e w1 ⟨rfl, hb1⟩
  have L1 := (L0 _).trans (hb1.mono (by simp))
  have B1 := B0.below hb1 B0.lt
  clear hb1 B0 L0
  by_cases hbig : s.size > 1000
  · have hb' : (1000 : Int) < (s.size : Int) := by omega
    go_wp2_with fail
    refine (alive_any _ (HKW.out _ L1)).mono ?_
    rintro e w2 ⟨rfl, hb2⟩
    have L2 := L1.trans (hb2.mono L1.size)
    go_wp2_with fail
    go_ret
    exact ⟨rfl, L2⟩
  · have hb' : (s.size : Int) ≤ 1000 := by omega
    have Hbig := Lib.hid hbig
    clear hbig
    go_wp2_with (refine wpList_load_blk rfl 26 (.tmp 2) rfl w.heap.size rfl 26 32 (bv f) B1 _ ty26 rfl sz26 ?_)
    refine (hex_any f w1).mono ?_
    rintro e w2 ⟨rfl, hb2⟩
    have L2 := L1.trans (hb2.mono L1.size)
    have B2 := B1.below hb2 B1.lt
    clear hb2 L1 B1
    go_wp2_with fail
    refine (unhex_hex_any f w2).mono ?_
    rintro e w3 ⟨rfl, hb3⟩
    have L3 := L2.trans (hb3.mono L2.size)
    have B3 := B2.below hb3 B2.lt
    clear hb3 L2 B2
    go_upto_region 6 with (refine wpList_store_blk rfl 26 (.tmp 5) (.tmp 19) rfl w3.heap.size 32 (bv f) (bv fun _ => 0) rfl rfl 26 (Blk.newAt _ (heap_alloc_new _ _) rfl) sz26 (fun _ _ => rfl) ?_)
    rw [World.setRow_alloc_new]
    have A4 : Blk (w3.alloc (.cells (arr 32 (bv f)) 26)) w3.heap.size 26 32 (bv f) := Blk.newAt _ (heap_alloc_new _ _) rfl
    have B4 := B3.alloc (.cells (arr 32 (bv f)) 26)
    have L4 := L3.alloc L3.size (.cells (arr 32 (bv f)) 26)
    clear L3 B3
    generalize w3.alloc (.cells (arr 32 (bv f)) 26) = w4 at A4 B4 L4 ⊢
    go_wp2_with fail
    refine (unhex_any s w4 (by omega)).mono ?_
    rintro e w5 ⟨rfl, hb5⟩
    have A5 := A4.below hb5 A4.lt
    have B5 := B4.below hb5 B4.lt
    have L5 := L4.trans (hb5.mono L4.size)
    clear hb5 A4 B4 L4
    go_upto_region 7 with (refine wpList_store_blk rfl 26 (.tmp 7) (.tmp 24) rfl w5.heap.size 32 (bv (uh s)) (bv fun _ => 0) rfl rfl 26 (Blk.newAt _ (heap_alloc_new _ _) rfl) sz26 (fun _ _ => rfl) ?_)
    rw [World.setRow_alloc_new]
    have C6 : Blk (w5.alloc (.cells (arr 32 (bv (uh s))) 26)) w5.heap.size 26 32 (bv (uh s)) := Blk.newAt _ (heap_alloc_new _ _) rfl
    have A6 := A5.alloc (.cells (arr 32 (bv (uh s))) 26)
    have B6 := B5.alloc (.cells (arr 32 (bv (uh s))) 26)
    have L6 := L5.alloc L5.size (.cells (arr 32 (bv (uh s))) 26)
    clear A5 B5 L5
    generalize w5.alloc (.cells (arr 32 (bv (uh s))) 26) = w6 at A6 B6 C6 L6 ⊢
    go_wp2_with fail
    refine (alive_any _ (HKW.out _ L6)).mono ?_
    rintro e w7 ⟨rfl, hb7⟩
    have A7 := A6.below hb7 A6.lt
    have B7 := B6.below hb7 B6.lt
    have C7 := C6.below hb7 C6.lt
    have L7 := L6.trans (hb7.mono L6.size)
    clear hb7 A6 B6 C6 L6
    have q1 := eq_arr f f (fun _ _ => rfl)
    cases hu : uok s
    · have hz := uh_no s hu
      rw [hz] at C7
      rw [hz]
      have q2 : ∀ w, (binOp .eql 26 (.agg (arr 32 (bv fun _ => 0))) (.agg #[.int .u8 0, .int .u8 0, .int .u8 0, .int .u8 0, .int .u8 0, .int .u8 0, .int .u8 0, .int .u8 0, .int .u8 0, .int .u8 0, .int .u8 0, .int .u8 0, .int .u8 0, .int .u8 0, .int .u8 0, .int .u8 0, .int .u8 0, .int .u8 0, .int .u8 0, .int .u8 0, .int .u8 0, .int .u8 0, .int .u8 0, .int .u8 0, .int .u8 0, .int .u8 0, .int .u8 0, .int .u8 0, .int .u8 0, .int .u8 0, .int .u8 0, .int .u8 0])).run Tryd.prog w = .ok (.bool true) w := fun w => by
        rw [zero_lit]; exact eq_arr _ _ (fun _ _ => rfl) w
      clear hz
      go_wp2_with (first | (refine wpList_load_blk_g rfl 26 (.tmp 5) rfl w3.heap.size rfl 26 32 (bv f) A7 _ ty26 rfl sz26 ?_) | (refine wpList_load_blk_g rfl 26 (.tmp 2) rfl w.heap.size rfl 26 32 (bv f) B7 _ ty26 rfl sz26 ?_) | (refine wpList_load_blk_g rfl 26 (.tmp 7) rfl w5.heap.size rfl 26 32 (bv fun _ => 0) C7 _ ty26 rfl sz26 ?_))
      go_ret
      exact ⟨rfl, L7⟩
    · have q2 := congrArg ByteArray.toList (hexL_uh s hu)
      rw [ByteArray.toList_eq, List.toList_toArray] at q2
      have q3 : (hexL (uh s) 32 == s.toList) = true := beq_iff_eq.2 q2
      clear q2
      go_wp2_with (first | (refine wpList_load_blk_g rfl 26 (.tmp 5) rfl w3.heap.size rfl 26 32 (bv f) A7 _ ty26 rfl sz26 ?_) | (refine wpList_load_blk_g rfl 26 (.tmp 2) rfl w.heap.size rfl 26 32 (bv f) B7 _ ty26 rfl sz26 ?_) | (refine wpList_load_blk_g rfl 26 (.tmp 7) rfl w5.heap.size rfl 26 32 (bv (uh s)) C7 _ ty26 rfl sz26 ?_))
      refine (hex_any (uh s) w7).mono ?_
      rintro e w8 ⟨rfl, hb8⟩
      have L8 := L7.trans (hb8.mono L7.size)
      go_wp2_with fail
      go_ret
      exact ⟨rfl, L8⟩
end Go.Proofs.YtnfhnkplkbpmpaaDoor
