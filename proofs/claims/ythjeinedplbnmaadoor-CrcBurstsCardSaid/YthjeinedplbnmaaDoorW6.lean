import Derived.Test.YthjeinedplbnmaaDoorW5
namespace Go.Proofs.YthjeinedplbnmaaDoor
open Go.RowKit
theorem seal_front (s : ByteArray) : (sealS s).extract 0 ((sealS s).size - 4) = s := by
  rw [sealS_size, show s.size + 4 - 4 = s.size by omega]
  unfold sealS
  exact ByteArray.extract_append_eq_left rfl
theorem ok_seal (s : ByteArray) : okS (sealS s) = true := by
  unfold okS
  rw [seal_front, sealS_size, decide_eq_true (show 4 ≤ s.size + 4 by omega), decide_eq_true rfl]
  rfl
theorem un_seal (s : ByteArray) : unS (sealS s) = s := by
  unfold unS
  rw [if_pos (ok_seal s), seal_front]
theorem unseal_seal (s : ByteArray) (w : World) (hs : s.size ≤ 1073741820) (hk : ∀ i, i < 16 → w.cell? ⟨0, i, none⟩ = some (wv hb i)) :
    Calls Tryd.prog 18 #[.string (sealS s)] w fun e w' => e = .returned (.tuple #[.string s, .bool true]) ∧ Below w.heap.size w w' := by
  have h := unseal_any (sealS s) w (by rw [sealS_size]; omega) hk
  rw [ok_seal, un_seal] at h
  exact h
def nineSs (i : Nat) : ByteArray := if i = 0 then { data := #[49, 50, 51, 52] } else { data := #[53, 54, 55, 56, 57] }
def nineF (i : Nat) : UInt8 := UInt8.ofNat (49 + i)
theorem nine_offs : offs nineSs 2 = 9 := rfl
theorem nine_join : ∀ i, i < 9 → joinF nineSs 2 i = nineF i := by decide
theorem nine_val : sumF nineF 9 = 0xcbf43926#32 := by decide +kernel
theorem nine_sum : U (sumF (joinF nineSs 2) (offs nineSs 2)) = 3421780262 := by
  rw [nine_offs, sumF_congr nine_join, nine_val]; rfl
theorem nine_cells : ∀ i, i < 2 → (#[.string { data := #[49, 50, 51, 52] }, .string { data := #[53, 54, 55, 56, 57] }] : Array Value)[i]? = some (.string (nineSs i)) := fun i hi =>
  match i, hi with
  | 0, _ => rfl
  | 1, _ => rfl
set_option maxHeartbeats 400000 in
set_option maxRecDepth 100000 in
theorem alive_any (w : World) (hk : ∀ i, i < 16 → w.cell? ⟨0, i, none⟩ = some (wv hb i)) :
    Calls Tryd.prog 8 #[] w fun e w' => e = .returned (.bool true) ∧ Below w.heap.size w w' := by
  have h0 : 0 < w.heap.size := block_lt_of_cell (hk 0 (by omega))
  have HKW : Hid (∀ w', Below w.heap.size w w' → ∀ i, i < 16 → w'.cell? ⟨0, i, none⟩ = some (wv hb i)) := fun w' L i hi => by rw [L.cell h0]; exact hk i hi
  clear hk
  go_enter Tryd.func8, Tryd.ntmps8
  go_wp2_with fail
  refine (seal_any { data := #[97, 98, 99] } _ (by decide) (HKW.out _ (Below.refl _ _))).mono ?_
  rintro e w1 ⟨rfl, L1⟩
  go_wp2_with fail
  refine (unseal_seal { data := #[97, 98, 99] } _ (by decide) (HKW.out _ L1)).mono ?_
  rintro e w2 ⟨rfl, hb2⟩
  have L2 := L1.trans (hb2.mono L1.size)
  clear hb2
  go_wp2_with fail
  have L3 := L2.alloc L2.size (.cells #[.string { data := #[49, 50, 51, 52] }, .string { data := #[53, 54, 55, 56, 57] }] 9)
  refine (csum_any nineSs _ 2 _ (by omega) (by rw [nine_offs]; omega) (strs_new w2 _ 9 nineSs 2 _ rfl (by decide) nine_cells) (HKW.out _ L3)).mono ?_
  rintro e w' ⟨rfl, rfl⟩
  rw [nine_sum]
  go_wp2_with fail
  go_ret
  exact ⟨rfl, L3⟩
end Go.Proofs.YthjeinedplbnmaaDoor
