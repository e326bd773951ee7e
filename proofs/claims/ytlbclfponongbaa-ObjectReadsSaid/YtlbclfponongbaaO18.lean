import Derived.Test.YtlbclfponongbaaO17
/- A list of entries cloned; of one list there is one order by names. -/
namespace Go.Proofs.Ytlbclfponongbaa
open Go.RowKit Classical
set_option maxHeartbeats 1000000 in
set_option maxRecDepth 100000 in
theorem clone_zero (a : Addr) (c : Nat) (w : World) :
    Calls Try.prog 24 #[.slice (some a) 0 c] w fun e w' => ∃ v', e = .returned v' ∧ w'.ownsRow w.heap.size 37 34 v' 0 [] ∧ Below w.heap.size w w' := by
  obtain ⟨i0, hi0, hz0, hz1, hz2⟩ := info_parts iEntry
  have hzs := arr_size 34 (ev ⟨[], 0, fun _ => 0⟩)
  generalize arr 34 (ev ⟨[], 0, fun _ => 0⟩) = Z at hz0 hzs
  have q22 : ∀ (w : World) (a : Option Addr) (n c n' c' : Nat), (binOp .eql 58 (.slice a n c) (.slice none n' c')).run Try.prog w = .ok (.bool a.isNone) w := fun w a n c n' c' => Lib.run_eql_slice_nil w _ _ a n c n' c' tEntries
  go_enter Try.func24, Try.ntmps24
  go_wp2_with (at_builtin; refine wpList_append_own _ rfl _ _ 58 rfl w.heap.size 37 i0 (.agg Z) 34 56 tEntries hi0 hz0 hz1 hz2 hzs (by decide) _ _ _ rfl (World.ownsRow_made w #[] 0 (Nat.le_refl _) (Nat.zero_le _) (by simp)) a 0 c [] rfl ?qc1 ?qc2 ?qc3 ?qc4 ?qc5 ?qc6 ?_)
  case qc1 => rfl
  case qc2 => intro j u hj; simp at hj
  case qc3 => intro u hu; simp at hu
  case qc4 => decide
  case qc5 => decide
  case qc6 => simp
  intro v' w1 hown hgrow hnil
  go_wp2
  go_ret
  refine ⟨v', rfl, by simpa using hown, ?_⟩
  exact ((Below.refl _ w).alloc (Nat.le_refl _) _).grown hgrow (by simp) (by intro k hk; simp [Value.ownBlock] at hk; omega)
theorem clonee_any {es : Nat → Ent} {n : Nat} {v : Value} {w : World} (hR : Row w v 34 (ec es) n) (hn : n ≤ 100000) :
    Calls Try.prog 24 #[v] w fun e w' => ∃ v', e = .returned v' ∧ w'.ownsRow w.heap.size 37 34 v' n (arr (n * 34) (ec es)).toList ∧ Below w.heap.size w w' := by
  obtain ⟨ad, cap, rfl, ha⟩ := row_addr hR
  cases ad with
  | none =>
    by_cases h0 : 0 < n
    · obtain ⟨b, o, h1, _⟩ := ha h0
      cases h1
    · have e : n = 0 := by omega
      subst e
      have h := AnyE.slices_Clone_nil cloneE 0 cap w
      change Calls Try.prog 24 _ _ _ at h
      refine h.mono ?_
      rintro e w' ⟨rfl, rfl⟩
      exact ⟨_, rfl, World.ownsRow_nil _ _ _ _, Below.refl _ _⟩
  | some a =>
    by_cases h0 : 0 < n
    · obtain ⟨b, o, h1, h2, h3⟩ := ha h0
      cases h1
      obtain ⟨i0, hi0, hz0, hz1, hz2⟩ := info_parts iEntry
      have h := AnyE.slices_Clone cloneE i0 _ 34 56 hi0 hz0 hz1 hz2 (arr_size 34 _) (by decide) Try.sizeOf37 b o n cap (arr (n * 34) (ec es)).toList w (by rw [Array.length_toList, arr_size]) (by unfold maxLen; omega) (by omega) (fun j u hj => h3.range j u hj) (fun u hu => by
        rw [Array.mem_toList_iff] at hu
        unfold arr at hu
        rw [Array.mem_ofFn] at hu
        obtain ⟨i, rfl⟩ := hu
        exact ev_one _ _)
      change Calls Try.prog 24 _ _ _ at h
      refine h.mono ?_
      rintro e w' ⟨v', rfl, h5, -, h6⟩
      exact ⟨v', rfl, h5, h6⟩
    · have e : n = 0 := by omega
      subst e
      refine (clone_zero a cap w).mono ?_
      rintro e w' ⟨v', rfl, h5, h6⟩
      exact ⟨v', rfl, owns_congr h5 (by simp [arr]), h6⟩
/- the block of a row of the call's own -/
theorem owns_block {w : World} {B e m n : Nat} {v : Value} {c : Nat → Value} (h : w.ownsRow B e m v n (arr (n * m) c).toList) (h0 : 0 < n) : ∃ g cap, v = .slice (some ⟨g, 0, none⟩) n cap ∧ n ≤ cap ∧ B ≤ g ∧ g < w.heap.size ∧ At w g 0 (n * m) c ∧ ∀ j, w.frozen? ⟨g, j, none⟩ = false := by
  have hr := owns_row h
  rcases h.2 with ⟨rfl, h1⟩ | ⟨g, cap, cur, rfl, hb, hg, h2, h3, h4, h5⟩
  · omega
  · rcases hr with ⟨_, _, _, e⟩ | ⟨b, o, cap2, e, _, hc, hl, hA⟩
    · omega
    · cases e
      exact ⟨_, _, rfl, hc, hb, hl, hA, fun j => frozen_of_row w _ j _ _ hg⟩
/- strictly rising entries -/
theorem rising {gs : Nat → Ent} {n : Nat} (h : entsOk gs n) : ∀ j i, i < j → j < n → Op.bytesLess (gs i).name (gs j).name = true := by
  intro j
  induction j with
  | zero => intro i hi; omega
  | succ j ih =>
    intro i hi hj
    have h1 := h.2.2 j hj
    by_cases c : i = j
    · subst c; exact h1
    · exact bl_trans _ _ _ (ih i (by omega) (by omega)) h1
theorem lst_pair {R : Ent → Ent → Prop} (fs : Nat → Ent) (n : Nat) (h : ∀ i j, i < j → j < n → R (fs i) (fs j)) : (lst fs n).Pairwise R := by
  rw [List.pairwise_iff_getElem]
  intro i j hi hj hij
  simp only [lst, List.getElem_map, List.getElem_range]
  exact h i j hij (by simpa [lst] using hj)
theorem lst_mem {fs : Nat → Ent} {n : Nat} {x : Ent} (h : x ∈ lst fs n) : ∃ i, i < n ∧ fs i = x := by
  unfold lst at h
  obtain ⟨i, hi, rfl⟩ := List.mem_map.1 h
  exact ⟨i, List.mem_range.1 hi, rfl⟩
theorem sorted_one {es fs gs : Nat → Ent} {n : Nat} (hp : PermE es fs n) (hs : SortE fs n) (hq : PermE es gs n) (hg : entsOk gs n) : ∀ i, i < n → fs i = gs i := by
  have hpq : (lst fs n).Perm (lst gs n) := hp.symm.trans hq
  have e := List.Perm.eq_of_pairwise (le := fun a b => Op.bytesLess b.name a.name = false) (fun a b ha hb hab hba => by
      obtain ⟨i, hi, rfl⟩ := lst_mem (hpq.mem_iff.1 ha)
      obtain ⟨j, hj, rfl⟩ := lst_mem hb
      by_cases c : i = j
      · rw [c]
      · rcases Nat.lt_or_gt_of_ne c with c | c
        · have := rising hg _ _ c hj
          rw [this] at hba; cases hba
        · have := rising hg _ _ c hi
          rw [this] at hab; cases hab) (lst_pair fs n fun i j hij hj => hs i j hij hj) (lst_pair gs n fun i j hij hj => bl_asymm _ _ (rising hg _ _ hij hj)) hpq
  intro i hi
  have h1 := lst_get fs n i hi
  rw [e, lst_get gs n i hi] at h1
  exact (Option.some.inj h1).symm
end Go.Proofs.Ytlbclfponongbaa
