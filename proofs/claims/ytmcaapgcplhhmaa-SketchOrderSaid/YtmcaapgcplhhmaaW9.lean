import Derived.Test.YtmcaapgcplhhmaaW8
import Derived.Lib.SliceRun
import Derived.Deep.RegionLaw
/- Clone of sketches; Delete of one sketch, of one number. -/
namespace Go.Proofs.Ytmcaapgcplhhmaa
open Go.RowKit
theorem t34 : Try.prog.underlying 34 = some (.slice 28) := by kernel_rfl
theorem t44 : Try.prog.underlying 44 = some (.slice 3) := by kernel_rfl
theorem i28 : (Try.prog.info? 28).map (fun i => (i.zero, i.size, i.bytes)) = some (some (.agg #[.complex .f64 0 0, .complex .f64 0 0, .complex .f64 0 0, .complex .f64 0 0]), 4, 64) := by kernel_rfl
theorem i3 : (Try.prog.info? 3).map (fun i => (i.zero, i.size, i.bytes)) = some (some (.int .i64 0), 1, 8) := by kernel_rfl
def z4 : List Value := [.complex .f64 0 0, .complex .f64 0 0, .complex .f64 0 0, .complex .f64 0 0]
def z1 : List Value := [.int .i64 0]
theorem zero28 (w : World) : (zeroValue 28).run Try.prog w = .ok (.agg #[.complex .f64 0 0, .complex .f64 0 0, .complex .f64 0 0, .complex .f64 0 0]) w := by kernel_rfl
theorem zero3 (w : World) : (zeroValue 3).run Try.prog w = .ok (.int .i64 0) w := by kernel_rfl
theorem run_clear_sk (w : World) (ty : TypeId) (b o c : Nat) (hc : ∀ j, j < 4 → (w.cell? ⟨b, o + j, none⟩).isSome = true) (hf : ∀ j, j < 4 → w.frozen? ⟨b, o + j, none⟩ = false) :
    (Builtin.clear_ #[34] ty #[.slice (some ⟨b, o, none⟩) 1 c]).run Try.prog w = .ok (.tuple #[]) (w.setCells b o z4) := by
  have hst := run_storeCells_cells (P := Try.prog) b o z4 0 w (fun j hj => by rw [Nat.add_zero]; exact hc j hj) (fun j hj => by rw [Nat.add_zero]; exact hf j hj) (by decide)
  have hzc : (Builtin.zeroCells #[.complex .f64 0 0, .complex .f64 0 0, .complex .f64 0 0, .complex .f64 0 0] 1).toList = z4 := by kernel_rfl
  simp only [Nat.add_zero] at hst
  simp [Builtin.clear_, run_underlying t34, zero28, Value.cells, hzc, hst]
theorem run_clear_int (w : World) (ty : TypeId) (b o c : Nat) (hc : ∀ j, j < 1 → (w.cell? ⟨b, o + j, none⟩).isSome = true) (hf : ∀ j, j < 1 → w.frozen? ⟨b, o + j, none⟩ = false) :
    (Builtin.clear_ #[44] ty #[.slice (some ⟨b, o, none⟩) 1 c]).run Try.prog w = .ok (.tuple #[]) (w.setCells b o z1) := by
  have hst := run_storeCells_cells (P := Try.prog) b o z1 0 w (fun j hj => by rw [Nat.add_zero]; exact hc j hj) (fun j hj => by rw [Nat.add_zero]; exact hf j hj) (by decide)
  have hzc : (Builtin.zeroCells #[.int .i64 0] 1).toList = z1 := by kernel_rfl
  simp only [Nat.add_zero] at hst
  simp [Builtin.clear_, run_underlying t44, zero3, Value.cells, hzc, hst]
set_option maxHeartbeats 4000000 in
theorem delete_sk_at (g n cap i j : Nat) (f : Nat → Value) (w : World) (hB : Blk w g 28 (cap * 4) f) (h1 : ∀ j, j < n * 4 → (f j).oneCell' = true) (hj : j = i + 1) (hi : i < n) (hn : n ≤ cap) (hn2 : n ≤ 1048576) (hcap : cap ≤ 9223372036854775807) :
    Calls Try.prog 26 #[.slice (some ⟨g, 0, none⟩) n cap, .int .i64 i, .int .i64 (j : Int)] w fun e w' => e = .returned (.slice (some ⟨g, 0, none⟩) (n - 1) cap) ∧
      ∃ f', Blk w' g 28 (cap * 4) f' ∧ (∀ j, j < (n - 1) * 4 → f' j = if j < i * 4 then f j else f (j + 4)) ∧ Keep (fun k => k ≠ g) w w' := by
  obtain ⟨i0, hi0, hz0, hz1, hz2⟩ := info_parts i28
  -- the cells that are moved to the left
  obtain ⟨news, hnews⟩ : ∃ news, news = (arr ((n - j) * 4) (fun t => f (j * 4 + t))).toList := ⟨_, rfl⟩
  have hlen : news.length = (n - j) * 4 := by rw [hnews, Array.length_toList, arr_size]
  have hget : ∀ t, t < (n - j) * 4 → news[t]? = some (f (j * 4 + t)) := by
    intro t ht
    rw [hnews, Array.getElem?_toList]
    exact arr_get _ _ _ ht
  obtain ⟨A, hA, hsrc⟩ : ∃ A : Addr, (if cap = j then some (⟨g, 0, none⟩ : Addr) else some ⟨g, j * 4, none⟩) = some A ∧ Hid (∀ t u, news[t]? = some u → w.drew.cell? (A.add t) = some u) := by
    by_cases h : cap = j
    · refine ⟨⟨g, 0, none⟩, by simp [h], fun t u hu => ?_⟩
      have h0 : news.length = 0 := by rw [hlen]; omega
      rw [List.length_eq_zero_iff.1 h0] at hu
      simp at hu
    · refine ⟨⟨g, j * 4, none⟩, by simp [h], fun t u hu => ?_⟩
      have ht : t < (n - j) * 4 := by
        have := (List.getElem?_eq_some_iff.1 hu).1
        rwa [hlen] at this
      rw [hget t ht] at hu
      rw [Addr.add_mid]
      exact (hB.cell _ (by omega)).trans hu
  have s1 : Hid (news.length = (n - j) * 4) := hlen
  have s2 : Hid (∀ u ∈ news, u.oneCell' = true) := by
    intro u hu
    rw [hnews, List.mem_iff_getElem?] at hu
    obtain ⟨t, ht⟩ := hu
    have htl : t < (n - j) * 4 := by
      have := (List.getElem?_eq_some_iff.1 ht).1
      rwa [Array.length_toList, arr_size] at this
    rw [Array.getElem?_toList, arr_get _ _ _ htl] at ht
    cases ht
    exact h1 _ (by omega)
  have s3 : Hid (∀ t, t < news.length → (w.drew.cell? ⟨g, 0 + i * 4 + t, none⟩).isSome = true ∧ w.drew.frozen? ⟨g, 0 + i * 4 + t, none⟩ = false) := by
    intro t ht
    rw [hlen] at ht
    refine ⟨?_, hB.frozen _⟩
    show (w.cell? _).isSome = true
    rw [hB.cell _ (by omega)]; rfl
  obtain ⟨W1, hW1⟩ : ∃ W1, W1 = w.drew.setCells g (0 + i * 4) news := ⟨_, rfl⟩
  have hB1 : Hid (Blk W1 g 28 (cap * 4) (fun j => if 0 + i * 4 ≤ j ∧ j < 0 + i * 4 + news.length then news.getD (j - (0 + i * 4)) undef else f j)) := by rw [hW1]; exact Blk.setCells news _ _ _ hB.drew
  have hK1 : Hid (Keep (fun k => k ≠ g) w W1) := by rw [hW1]; exact ((Keep.refl _ w).drew).trans (keep_setCells news _ _)
  have hcl : ∀ ty, (Builtin.clear_ #[34] ty #[.slice (some ⟨g, (i + (n - j)) * 4, none⟩) (n - (i + (n - j))) (cap - (i + (n - j)))]).run Try.prog W1 = .ok (.tuple #[]) (W1.setCells g ((i + (n - j)) * 4) z4) := fun ty => by
    rw [show n - (i + (n - j)) = 1 by omega]
    exact run_clear_sk W1 ty g _ _ (fun k hk => by rw [hB1.out.cell _ (by omega)]; rfl) (fun k hk => hB1.out.frozen _)
  have hW : Hid (W1 = w.drew.setCells g (0 + i * 4) news) := hW1
  have hic : i ≤ cap := by omega
  have hjc : j ≤ cap := by omega
  have hjn : j ≤ n := by omega
  have hij : i < j := by omega
  have HG := Lib.hid hget
  have HJ := Lib.hid hj
  clear hj hW1 hB hget hnews hlen h1
  go_enter Try.func26, Try.ntmps26
  go_wp2
  go_region_law (refine step_append_room rfl (.tmp 22) (.tmp 25) 34 rfl 28 i0 4 t34 hi0 hz1 g 0 i cap (by simp [Act.eval, Act.put]) A (n - j) (cap - j) news (by simp [Act.eval, Act.put, hA]) s1.out hsrc.out s2.out (by omega) s3.out ?_; rw [← hW.out])
  go_wp2
  go_ret
  have hj : j = i + 1 := HJ.out
  have hB2 := Blk.setCells z4 ((i + (n - j)) * 4) _ _ hB1.out
  refine ⟨by rw [show n - 1 = i + (n - j) by omega]; rfl, _, hB2, fun k hk => ?_, hK1.out.trans (keep_setCells _ _ _)⟩
  rw [if_neg (by omega)]
  by_cases c : k < i * 4
  · rw [if_neg (by omega), if_pos c]
  · rw [if_pos (by rw [s1.out]; omega), if_neg c, List.getD_eq_getElem?_getD, HG.out _ (by omega), show j * 4 + (k - (0 + i * 4)) = k + 4 by omega]
    rfl
set_option maxHeartbeats 4000000 in
theorem delete_int_at (g n cap i j : Nat) (f : Nat → Value) (w : World) (hB : Blk w g 3 cap f) (h1 : ∀ j, j < n → (f j).oneCell' = true) (hj : j = i + 1) (hi : i < n) (hn : n ≤ cap) (hn2 : n ≤ 1048576) (hcap : cap ≤ 9223372036854775807) :
    Calls Try.prog 27 #[.slice (some ⟨g, 0, none⟩) n cap, .int .i64 i, .int .i64 (j : Int)] w fun e w' => e = .returned (.slice (some ⟨g, 0, none⟩) (n - 1) cap) ∧
      ∃ f', Blk w' g 3 cap f' ∧ (∀ j, j < (n - 1) → f' j = if j < i then f j else f (j + 1)) ∧ Keep (fun k => k ≠ g) w w' := by
  obtain ⟨i0, hi0, hz0, hz1, hz2⟩ := info_parts i3
  -- the cells that are moved to the left
  obtain ⟨news, hnews⟩ : ∃ news, news = (arr ((n - j) * 1) (fun t => f (j + t))).toList := ⟨_, rfl⟩
  have hlen : news.length = (n - j) * 1 := by rw [hnews, Array.length_toList, arr_size]
  have hget : ∀ t, t < (n - j) * 1 → news[t]? = some (f (j + t)) := by
    intro t ht
    rw [hnews, Array.getElem?_toList]
    exact arr_get _ _ _ ht
  obtain ⟨A, hA, hsrc⟩ : ∃ A : Addr, (if cap = j then some (⟨g, 0, none⟩ : Addr) else some ⟨g, j, none⟩) = some A ∧ Hid (∀ t u, news[t]? = some u → w.drew.cell? (A.add t) = some u) := by
    by_cases h : cap = j
    · refine ⟨⟨g, 0, none⟩, by simp [h], fun t u hu => ?_⟩
      have h0 : news.length = 0 := by rw [hlen]; omega
      rw [List.length_eq_zero_iff.1 h0] at hu
      simp at hu
    · refine ⟨⟨g, j, none⟩, by simp [h], fun t u hu => ?_⟩
      have ht : t < (n - j) * 1 := by
        have := (List.getElem?_eq_some_iff.1 hu).1
        rwa [hlen] at this
      rw [hget t ht] at hu
      rw [Addr.add_mid]
      exact (hB.cell _ (by omega)).trans hu
  have s1 : Hid (news.length = (n - j) * 1) := hlen
  have s2 : Hid (∀ u ∈ news, u.oneCell' = true) := by
    intro u hu
    rw [hnews, List.mem_iff_getElem?] at hu
    obtain ⟨t, ht⟩ := hu
    have htl : t < (n - j) * 1 := by
      have := (List.getElem?_eq_some_iff.1 ht).1
      rwa [Array.length_toList, arr_size] at this
    rw [Array.getElem?_toList, arr_get _ _ _ htl] at ht
    cases ht
    exact h1 _ (by omega)
  have s3 : Hid (∀ t, t < news.length → (w.drew.cell? ⟨g, 0 + i * 1 + t, none⟩).isSome = true ∧ w.drew.frozen? ⟨g, 0 + i * 1 + t, none⟩ = false) := by
    intro t ht
    rw [hlen] at ht
    refine ⟨?_, hB.frozen _⟩
    show (w.cell? _).isSome = true
    rw [hB.cell _ (by omega)]; rfl
  obtain ⟨W1, hW1⟩ : ∃ W1, W1 = w.drew.setCells g (0 + i * 1) news := ⟨_, rfl⟩
  have hB1 : Hid (Blk W1 g 3 cap (fun j => if 0 + i * 1 ≤ j ∧ j < 0 + i * 1 + news.length then news.getD (j - (0 + i * 1)) undef else f j)) := by rw [hW1]; exact Blk.setCells news _ _ _ hB.drew
  have hK1 : Hid (Keep (fun k => k ≠ g) w W1) := by rw [hW1]; exact ((Keep.refl _ w).drew).trans (keep_setCells news _ _)
  have hcl : ∀ ty, (Builtin.clear_ #[44] ty #[.slice (some ⟨g, (i + (n - j)), none⟩) (n - (i + (n - j))) (cap - (i + (n - j)))]).run Try.prog W1 = .ok (.tuple #[]) (W1.setCells g ((i + (n - j))) z1) := fun ty => by
    rw [show n - (i + (n - j)) = 1 by omega]
    exact run_clear_int W1 ty g _ _ (fun k hk => by rw [hB1.out.cell _ (by omega)]; rfl) (fun k hk => hB1.out.frozen _)
  have hW : Hid (W1 = w.drew.setCells g (0 + i * 1) news) := hW1
  have hic : i ≤ cap := by omega
  have hjc : j ≤ cap := by omega
  have hjn : j ≤ n := by omega
  have hij : i < j := by omega
  have HG := Lib.hid hget
  have HJ := Lib.hid hj
  clear hj hW1 hB hget hnews hlen h1
  go_enter Try.func27, Try.ntmps27
  go_wp2
  go_region_law (refine step_append_room rfl (.tmp 22) (.tmp 25) 44 rfl 3 i0 1 t44 hi0 hz1 g 0 i cap (by simp [Act.eval, Act.put]) A (n - j) (cap - j) news (by simp [Act.eval, Act.put, hA]) s1.out hsrc.out s2.out (by omega) s3.out ?_; rw [← hW.out])
  go_wp2
  go_ret
  have hj : j = i + 1 := HJ.out
  have hB2 := Blk.setCells z1 ((i + (n - j))) _ _ hB1.out
  refine ⟨by rw [show n - 1 = i + (n - j) by omega]; rfl, _, hB2, fun k hk => ?_, hK1.out.trans (keep_setCells _ _ _)⟩
  rw [if_neg (by omega)]
  by_cases c : k < i
  · rw [if_neg (by omega), if_pos c]
  · rw [if_pos (by rw [s1.out]; omega), if_neg c, List.getD_eq_getElem?_getD, HG.out _ (by omega), show j + (k - (0 + i * 1)) = k + 1 by omega]
    rfl
set_option maxHeartbeats 2000000 in
theorem clone_any (b o n c : Nat) (news : List Value) (w : World) (hl : news.length = n * 4) (hn : n ≤ 1048576) (hc : ∀ j u, news[j]? = some u → w.cell? ⟨b, o + j, none⟩ = some u) (h1 : ∀ u ∈ news, u.oneCell' = true) :
    Calls Try.prog 25 #[.slice (some ⟨b, o, none⟩) n c] w fun e w' => ∃ v', e = .returned v' ∧ w'.ownsRow w.heap.size 28 4 v' n news ∧ v' ≠ .slice none 0 0 ∧ Below w.heap.size w w' := by
  obtain ⟨i0, hi, hz0, hz1, hz2⟩ := info_parts i28
  have q34 : ∀ (w : World) (a : Option Addr) (n c n' c' : Nat), (binOp .eql 34 (.slice a n c) (.slice none n' c')).run Try.prog w = .ok (.bool a.isNone) w := fun w a n c n' c' => Lib.run_eql_slice_nil w _ _ a n c n' c' t34
  have A := Lib.hid hc
  clear hc
  go_enter Try.func25, Try.ntmps25
  go_wp2_with (at_builtin; refine wpList_append_own _ rfl _ _ 34 rfl w.heap.size 28 i0 _ 4 64 t34 hi hz0 hz1 hz2 rfl (by decide) _ _ _ rfl (World.ownsRow_made w #[] 0 (Nat.le_refl _) (Nat.zero_le _) (by simp)) ⟨b, o, none⟩ n c news rfl ?qc1 ?qc2 ?qc3 ?qc4 ?qc5 ?qc6 ?_)
  case qc1 => exact hl
  case qc2 =>
    intro j u hj
    rw [Addr.add_lit]
    exact Lib.cell?_alloc_some _ (A.out j u hj)
  case qc3 => exact h1
  case qc4 => rw [Nat.zero_add]; unfold maxLen; omega
  case qc5 => rw [Nat.zero_add]; omega
  case qc6 => simp
  intro v' w1 hown hgrow hnil
  go_wp2
  go_ret
  refine ⟨v', rfl, by simpa using hown, ?_, ?_⟩
  · exact hnil
  · exact ((Below.refl _ w).alloc (Nat.le_refl _) _).grown hgrow (by simp) (by intro k hk; simp [Value.ownBlock] at hk; omega)
end Go.Proofs.Ytmcaapgcplhhmaa
