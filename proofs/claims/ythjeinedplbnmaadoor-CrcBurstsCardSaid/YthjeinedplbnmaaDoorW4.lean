import Derived.Test.YthjeinedplbnmaaDoorW3
import Derived.Deep.WholeRow
import Derived.Deep.Cut
namespace Go.Proofs.YthjeinedplbnmaaDoor
open Go.RowKit
def oneS (s : ByteArray) (_ : Nat) : ByteArray := s
theorem one_offs (s : ByteArray) : offs (oneS s) 1 = s.size := by simp [offs, oneS]
theorem one_join (s : ByteArray) (i : Nat) : joinF (oneS s) 1 i = sAt s i := by
  unfold joinF
  rw [if_neg (by simp [offs])]
  simp [offs, oneS]
theorem one_sum (s : ByteArray) : sumF (joinF (oneS s) 1) (offs (oneS s) 1) = sumF (sAt s) s.size := by
  rw [one_offs]
  exact sumF_congr fun i _ => one_join s i
theorem one_cells (s : ByteArray) : ∀ i, i < 1 → (#[.string s] : Array Value)[i]? = some (.string (oneS s i)) := fun i hi => by
  obtain rfl : i = 0 := by omega
  rfl
/- the sum of one text, as the call with one part has it -/
theorem csum_one (s : ByteArray) (w : World) (b : Nat) (hs : s.size ≤ 1073741824) (hS : Strs w (.slice (some ⟨b, 0, none⟩) 1 1) (oneS s) 1) (hk : ∀ i, i < 16 → w.cell? ⟨0, i, none⟩ = some (wv hb i)) :
    Calls Tryd.prog 12 #[.slice (some ⟨b, 0, none⟩) 1 1] w fun e w' => e = .returned (.int .u32 (U (sumF (sAt s) s.size))) ∧ w = w' := by
  have h := csum_any (oneS s) _ 1 w (by omega) (by rw [one_offs]; exact hs) hS hk
  rw [one_sum] at h
  exact h
/- the four bytes of a number, the lowest first -/
def sb (x : W32) (i : Nat) : UInt8 := UInt8.ofNat (x.toNat / 256 ^ i)
theorem sb_val (x : W32) (i : Nat) : (((sb x i).toNat : Nat) : Int) = U x / (256 ^ i : Nat) % 256 := by
  unfold sb U
  rw [UInt8.toNat_ofNat']
  rw [← Int.natCast_ediv]
  omega
theorem four (x : W32) : (#[.int .u8 (U x % 256), .int .u8 (U x / 256 % 256), .int .u8 (U x / 65536 % 256), .int .u8 (U x / 16777216 % 256)] : Array Value) = arr 4 (bv (sb x)) := by
  apply Array.ext_getElem?
  intro i
  by_cases hi : i < 4
  · rw [arr_get _ _ _ hi]
    unfold bv
    rw [sb_val]
    match i, hi with
    | 0, _ => simp
    | 1, _ => rfl
    | 2, _ => rfl
    | 3, _ => rfl
  · rw [Array.getElem?_eq_none (by simp; omega), Array.getElem?_eq_none (by rw [arr_size]; omega)]
theorem four2 (x : W32) : (#[.int .u8 (U x % 256), .int .u8 (U x / 256 % 256), .int .u8 (U x / 65536 % 256), .int .u8 (U x / 16777216)] : Array Value) = arr 4 (bv (sb x)) := by
  have l0 := U_ge x
  have l1 := U_lt x
  have e : U x / 16777216 = U x / 16777216 % 256 := by omega
  have h : (#[.int .u8 (U x % 256), .int .u8 (U x / 256 % 256), .int .u8 (U x / 65536 % 256), .int .u8 (U x / 16777216)] : Array Value) = #[.int .u8 (U x % 256), .int .u8 (U x / 256 % 256), .int .u8 (U x / 65536 % 256), .int .u8 (U x / 16777216 % 256)] := by rw [← e]
  rw [h, four]
theorem ty44 : Tryd.prog.underlying 44 = some (.array 4 5) := by kernel_rfl
theorem sz44 : (Tryd.prog.info? 44).map (·.size) = some 4 := by kernel_rfl
set_option maxHeartbeats 400000 in
set_option maxRecDepth 100000 in
theorem sealof_any (s : ByteArray) (w : World) (hs : s.size ≤ 1073741824) (hk : ∀ i, i < 16 → w.cell? ⟨0, i, none⟩ = some (wv hb i)) :
    Calls Tryd.prog 24 #[.string s] w fun e w' => e = .returned (.agg (arr 4 (bv (sb (sumF (sAt s) s.size))))) ∧ Below w.heap.size w w' := by
  have h0 : 0 < w.heap.size := block_lt_of_cell (hk 0 (by omega))
  have HK := Lib.hid hk
  clear hk
  go_enter Tryd.func24, Tryd.ntmps24
  go_wp2_with fail
  have L0 : ∀ A B, Below w.heap.size w ((w.alloc A).alloc B) := fun A B => ((Below.refl _ _).alloc (Nat.le_refl _) _).alloc (by simp) _
  refine (csum_one s _ (w.heap.size + 1) hs (strs_new _ _ _ _ _ _ (by simp) (by decide) (one_cells s)) (fun i hi => by rw [(L0 _ _).cell h0]; exact HK.out i hi)).mono ?_
  rintro e w' ⟨rfl, rfl⟩
  clear L0
  go_wp2_with fail
  generalize sumF (sAt s) s.size = x
  rw [four x]
  have B : Blk ((w.alloc (.cells (arr 4 (bv (sb x))) 44)).alloc (.cells #[.string s] 9)) w.heap.size 44 4 (bv (sb x)) := Blk.newAt _ (heap_alloc2_old w _ _) rfl
  exact bodyPost_ret (v := .agg (arr 4 (bv (sb x)))) (results_blk rfl _ _ w.heap.size 44 4 _ B _ rfl ty44 rfl sz44) rfl ⟨rfl, ((Below.refl _ _).alloc (Nat.le_refl _) _).alloc (by simp) _⟩
def sealS (s : ByteArray) : ByteArray := s ++ str 4 (sb (sumF (sAt s) s.size))
theorem sealS_size (s : ByteArray) : (sealS s).size = s.size + 4 := by
  unfold sealS; rw [ByteArray.size_append, str_size]
theorem ty5 : Tryd.prog.underlying 5 = some (.int .u8) := by kernel_rfl
theorem ty40 : Tryd.prog.underlying 40 = some (.slice 5) := by kernel_rfl
/- a block of n bytes as a text -/
theorem conv_blk (w : World) (b E n : Nat) (cap : Nat) (f : Nat → UInt8) (hB : Blk w b E n (bv f)) : (convert 40 9 (.slice (some ⟨b, 0, none⟩) n cap)).run Tryd.prog w = .ok (.string (str n f)) w := by
  have h := run_convert_bytes_back (P := Tryd.prog) w 40 9 5 ⟨b, 0, none⟩ cap (strL n f) ty40 ty5 ty9 (fun j hj => by
    have hj' : j < n := by rw [strL_length] at hj; exact hj
    rw [Addr.add_mid, Nat.zero_add, hB.cell j hj', strL_get]
    rfl)
  rw [strL_length] at h
  exact h
set_option maxHeartbeats 400000 in
set_option maxRecDepth 100000 in
theorem seal_any (s : ByteArray) (w : World) (hs : s.size ≤ 1073741824) (hk : ∀ i, i < 16 → w.cell? ⟨0, i, none⟩ = some (wv hb i)) :
    Calls Tryd.prog 20 #[.string s] w fun e w' => e = .returned (.string (sealS s)) ∧ Below w.heap.size w w' := by
  have H := sealof_any s w hs hk
  have es : sealS s = s ++ str 4 (sb (sumF (sAt s) s.size)) := rfl
  rw [es]
  generalize sb (sumF (sAt s) s.size) = g at H ⊢
  clear es
  obtain ⟨r, hr⟩ : ∃ r, r = str 4 g := ⟨_, rfl⟩
  have n1 : ¬ 9223372036854775807 < s.size + r.size := by rw [hr, str_size]; omega
  rw [← hr]
  have Hr := Lib.hid hr
  clear hr
  go_enter Tryd.func20, Tryd.ntmps20
  go_wp2_with fail
  refine H.mono ?_
  rintro e w1 ⟨rfl, L1⟩
  go_upto_region 2 with (refine wpList_store_blk rfl 44 (.tmp 3) (.tmp 5) rfl w1.heap.size 4 (bv g) (bv fun _ => 0) rfl rfl 44 (Blk.newAt _ (heap_alloc_new _ _) rfl) sz44 (fun _ _ => rfl) ?_)
  rw [World.setRow_alloc_new]
  have K2 : Blk (w1.alloc (.cells (arr 4 (bv g)) 44)) w1.heap.size 44 4 (bv g) := Blk.newAt _ (heap_alloc_new _ _) rfl
  have L2 := L1.alloc L1.size (.cells (arr 4 (bv g)) 44)
  generalize w1.alloc (.cells (arr 4 (bv g)) 44) = w2 at K2 L2 ⊢
  have hc := conv_blk w2 w1.heap.size 44 4 4 g K2
  rw [← Hr.out] at hc
  go_wp2
  go_ret
  exact ⟨rfl, L2⟩
set_option maxHeartbeats 400000 in
set_option maxRecDepth 100000 in
theorem refseal_any (s : ByteArray) (w : World) (hs : s.size ≤ 1073741824) :
    Calls Tryd.prog 21 #[.string s] w fun e w' => e = .returned (.string (sealS s)) ∧ Below w.heap.size w w' := by
  have H := refsum_any s w hs
  have es : sealS s = s ++ str 4 (sb (sumF (sAt s) s.size)) := rfl
  rw [es]
  generalize sumF (sAt s) s.size = x at H ⊢
  clear es
  obtain ⟨r, hr⟩ : ∃ r, r = str 4 (sb x) := ⟨_, rfl⟩
  have n1 : ¬ 9223372036854775807 < s.size + r.size := by rw [hr, str_size]; omega
  rw [← hr]
  have Hr := Lib.hid hr
  clear hr
  go_enter Tryd.func21, Tryd.ntmps21
  go_wp2_with fail
  refine H.mono ?_
  rintro e w' ⟨rfl, rfl⟩
  have l0 := U_ge x
  have l1 := U_lt x
  have K2 : Blk (w.alloc (.cells (arr 4 (bv (sb x))) 5)) w.heap.size 5 4 (bv (sb x)) := Blk.newAt _ (heap_alloc_new _ _) rfl
  rw [← four2 x] at K2
  have hc := conv_blk _ w.heap.size 5 4 4 (sb x) K2
  rw [← Hr.out] at hc
  clear K2
  go_wp2
  go_ret
  exact ⟨rfl, (Below.refl _ _).alloc (Nat.le_refl _) _⟩
end Go.Proofs.YthjeinedplbnmaaDoor
