import Derived.Test.YtnfhnkplkbpmpaaDoorW10
import Derived.Test.YtnfhnkplkbpmpaaDoorPf
import Derived.Test.YtnfhnkplkbpmpaaDoorPg
namespace Go.Proofs.YtnfhnkplkbpmpaaDoor
open Go.RowKit
def hexS (f : Nat → UInt8) : ByteArray := ⟨(hexL f 32).toArray⟩
theorem hexS_at (f : Nat → UInt8) (i : Nat) (h : i < 64) : sAt (hexS f) i = hexAt f i := by
  unfold sAt hexS
  rw [List.getD_eq_getElem?_getD]
  show (hexL f 32)[i]?.getD 0 = _
  rw [hexL_get f 32 i h]; rfl
theorem hexS_size (f : Nat → UInt8) : (hexS f).size = 64 := by
  show (hexL f 32).toArray.size = 64
  rw [List.size_toArray, hexL_length]
theorem uok_hexS (f : Nat → UInt8) : uok (hexS f) = true := by
  unfold uok
  rw [Bool.and_eq_true]
  exact ⟨decide_eq_true (hexS_size f), (okF_iff _ _).2 fun i hi => by rw [hexS_at f i (by omega)]; exact hok_hex f i⟩
theorem uh_hexS (f : Nat → UInt8) (k : Nat) (hk : k < 32) : uh (hexS f) k = f k := by
  unfold uh
  rw [if_pos (uok_hexS f), ← unhex_hex f k]
  unfold unhexAt
  rw [hexS_at f _ (by omega), hexS_at f _ (by omega)]
theorem unhex_hex_any (f : Nat → UInt8) (w : World) :
    Calls Tryd.prog 16 #[.string ⟨(hexL f 32).toArray⟩] w fun e w' => e = .returned (.tuple #[.agg (arr 32 (bv f)), .bool true]) ∧ Below w.heap.size w w' :=
  (unhex_any (hexS f) w (by rw [hexS_size]; omega)).mono fun e w' h => ⟨by
    rw [h.1, uok_hexS, arr_congr (f := bv (uh (hexS f))) (g := bv f) (fun i hi => by unfold bv; rw [uh_hexS f i hi])], h.2⟩
theorem wpList_load_blk_g {P : Program} {ops : Array Oper} {rest : List Oper} {o : Oper} {a : Act} {w : World} {Q : Exit → Act → World → Prop} (hw : Region.wanted o (yielded ops a.tmps) = true) (ty : TypeId) (x : Operand) (ho : o.op = .load ty x)
    (g : Nat) (hx : a.eval x = .pointer (some ⟨g, 0, none⟩)) (E : TypeId) (n : Nat) (f : Nat → Value) (hB : Blk w g E n f) (d : TypeDesc)
    (hu : P.underlying ty = some d) (hd : (match d with | .struct _ | .array _ _ => true | _ => false) = true) (hi : (P.info? ty).map (·.size) = some n)
    (h : wpList P ops Q rest (a.put o.dst (.agg (arr n f))) w) : wpList P ops Q (o :: rest) a w := by
  refine wpList_step fun K hK => ?_
  rw [if_pos hw]
  exact wp_load_row ty x ho g hx E (arr n f) (0, 0) d hB hu hd (by rw [arr_size]; exact hi) (hK _ _ h)
def idF (i : Nat) : UInt8 := if i = 0 then 1 else if i = 1 then 254 else 0
theorem id_lit : (#[.int .u8 1, .int .u8 254, .int .u8 0, .int .u8 0, .int .u8 0, .int .u8 0, .int .u8 0, .int .u8 0, .int .u8 0, .int .u8 0, .int .u8 0, .int .u8 0, .int .u8 0, .int .u8 0, .int .u8 0, .int .u8 0, .int .u8 0, .int .u8 0, .int .u8 0, .int .u8 0, .int .u8 0, .int .u8 0, .int .u8 0, .int .u8 0, .int .u8 0, .int .u8 0, .int .u8 0, .int .u8 0, .int .u8 0, .int .u8 0, .int .u8 0, .int .u8 0] : Array Value) = arr 32 (bv idF) := rfl
def abcSs (i : Nat) : ByteArray := if i = 0 then { data := #[97] } else { data := #[98, 99] }
theorem abc_join (i : Nat) (hi : i < 3) : joinF abcSs 2 i = abcF i := by
  match i, hi with
  | 0, _ => rfl
  | 1, _ => rfl
  | 2, _ => rfl
theorem abc_offs : offs abcSs 2 = 3 := rfl
theorem abc_digs (i : Nat) (hi : i < 32) : dig (joinF abcSs 2) (offs abcSs 2) i = sByte abcS i := by
  rw [abc_offs, dig_congr abc_join i hi, abc_dig i hi]
set_option maxHeartbeats 1000000 in
set_option maxRecDepth 100000 in
theorem alive_any (w : World) (hk : ∀ i, i < 64 → w.cell? ⟨0, i, none⟩ = some (wv kk i)) :
    Calls Tryd.prog 8 #[] w fun e w' => e = .returned (.bool true) ∧ Below w.heap.size w w' := by
  have h0 : 0 < w.heap.size := block_lt_of_cell (hk 0 (by omega))
  have HK := Lib.hid hk
  clear hk
  go_enter Tryd.func8, Tryd.ntmps8
  go_wp2_with fail
  have L0 : ∀ A, Below w.heap.size w (w.alloc A) := fun A => (Below.refl _ _).alloc (Nat.le_refl _) _
  have S0 : Strs (w.alloc (.cells #[.string { data := #[97] }, .string { data := #[98, 99] }] 9)) (.slice (some ⟨w.heap.size, 0, none⟩) 2 2) abcSs 2 := Or.inr ⟨w.heap.size, 0, 2, rfl, by omega, by simp, fun i hi => by
    rw [cell_of_row _ _ _ _ _ _ (heap_alloc_new w _)]
    match i, hi with
    | 0, _ => rfl
    | 1, _ => rfl⟩
  refine (sum_any abcSs _ 2 _ (by omega) (by rw [abc_offs]; omega) S0 (fun i hi => by rw [(L0 _).cell h0]; exact HK.out i hi)).mono ?_
  rintro e w1 ⟨rfl, hb1⟩
  have L1 := (L0 _).trans (hb1.mono (by simp))
  have Z1 : w.heap.size < w1.heap.size := by have := hb1.size; simp at this; omega
  clear hb1 S0 L0
  obtain ⟨D, hD⟩ : ∃ D, D = dig (joinF abcSs 2) (offs abcSs 2) := ⟨_, rfl⟩
  rw [← hD]
  have HD := Lib.hid hD
  clear hD
  go_wp2_with (refine wpList_store_blk rfl 26 (.tmp 1) (.tmp 5) rfl w1.heap.size 32 (bv D) (bv fun _ => 0) rfl rfl 26 (Blk.newAt _ (heap_alloc_new _ _) rfl) sz26 (fun _ _ => rfl) ?_)
  rw [World.setRow_alloc_new]
  have K2 : Blk (w1.alloc (.cells (arr 32 (bv D)) 26)) w1.heap.size 26 32 (bv D) := Blk.newAt _ (heap_alloc_new _ _) rfl
  have L2 := L1.alloc (by omega) (.cells (arr 32 (bv D)) 26)
  generalize w1.alloc (.cells (arr 32 (bv D)) 26) = w2 at K2 L2 ⊢
  rw [id_lit]
  refine (hex_any idF w2).mono ?_
  rintro e w3 ⟨rfl, hb3⟩
  have K3 := K2.below hb3 K2.lt
  have L3 := L2.trans (hb3.mono L2.size)
  clear K2 L2 hb3
  go_wp2_with fail
  refine (unhex_hex_any idF w3).mono ?_
  rintro e w4 ⟨rfl, hb4⟩
  have K4 := K3.below hb4 K3.lt
  have L4 := L3.trans (hb4.mono L3.size)
  clear K3 L3 hb4
  go_upto_region 3 with (refine wpList_store_blk rfl 26 (.tmp 2) (.tmp 10) rfl w4.heap.size 32 (bv idF) (bv fun _ => 0) rfl rfl 26 (Blk.newAt _ (heap_alloc_new _ _) rfl) sz26 (fun _ _ => rfl) ?_)
  rw [World.setRow_alloc_new]
  have I5 : Blk (w4.alloc (.cells (arr 32 (bv idF)) 26)) w4.heap.size 26 32 (bv idF) := Blk.newAt _ (heap_alloc_new _ _) rfl
  have K5 := K4.alloc (.cells (arr 32 (bv idF)) 26)
  have L5 := L4.alloc L4.size (.cells (arr 32 (bv idF)) 26)
  clear K4 L4
  generalize w4.alloc (.cells (arr 32 (bv idF)) 26) = w5 at K5 L5 I5 ⊢
  have c0 : w5.cell? ⟨w1.heap.size, 0, none⟩ = some (.int .u8 186) := by rw [K5.cell 0 (by omega)]; unfold bv; rw [HD.out, abc_digs 0 (by omega), abc_val.1]; rfl
  have c1 : w5.cell? ⟨w1.heap.size, 1, none⟩ = some (.int .u8 120) := by rw [K5.cell 1 (by omega)]; unfold bv; rw [HD.out, abc_digs 1 (by omega), abc_val.2.1]; rfl
  have c30 : w5.cell? ⟨w1.heap.size, 30, none⟩ = some (.int .u8 21) := by rw [K5.cell 30 (by omega)]; unfold bv; rw [HD.out, abc_digs 30 (by omega), abc_val.2.2.1]; rfl
  have c31 : w5.cell? ⟨w1.heap.size, 31, none⟩ = some (.int .u8 173) := by rw [K5.cell 31 (by omega)]; unfold bv; rw [HD.out, abc_digs 31 (by omega), abc_val.2.2.2]; rfl
  have q : ∀ w, (binOp .eql 26 (.agg (arr 32 (bv idF))) (.agg #[.int .u8 1, .int .u8 254, .int .u8 0, .int .u8 0, .int .u8 0, .int .u8 0, .int .u8 0, .int .u8 0, .int .u8 0, .int .u8 0, .int .u8 0, .int .u8 0, .int .u8 0, .int .u8 0, .int .u8 0, .int .u8 0, .int .u8 0, .int .u8 0, .int .u8 0, .int .u8 0, .int .u8 0, .int .u8 0, .int .u8 0, .int .u8 0, .int .u8 0, .int .u8 0, .int .u8 0, .int .u8 0, .int .u8 0, .int .u8 0, .int .u8 0, .int .u8 0])).run Tryd.prog w = .ok (.bool true) w := fun w => by
    rw [id_lit, run_eql_arr8 w 26 5 32 idF idF ty26 ty5 sz5, decide_eq_true (fun _ _ => rfl)]
  clear K5
  go_wp2_with (refine wpList_load_blk_g rfl 26 (.tmp 2) rfl w4.heap.size rfl 26 32 (bv idF) I5 _ ty26 rfl sz26 ?_)
  go_ret
  exact ⟨rfl, L5⟩
end Go.Proofs.YtnfhnkplkbpmpaaDoor
