import Derived.Test.YtlbclfponongbaaGreatDoorWcm
import Derived.Test.YtlbclfponongbaaGreatDoorSh
import Derived.Test.YtlbclfponongbaaGreatDoorSg
/- Entries sorted by their names. -/
namespace Go.Proofs.YtlbclfponongbaaGreatDoor
open Go.RowKit Go.Sort Classical
def encE (e : Ent) : List Value := (arr 34 (ev e)).toList
theorem encE_len (e : Ent) : (encE e).length = 34 := by unfold encE; rw [Array.length_toList, arr_size]
theorem encE_arr (e : Ent) : (encE e).toArray = arr 34 (ev e) := Array.toArray_toList
theorem encE_one (e : Ent) : ∀ v ∈ encE e, v.oneCell' = true := by
  intro v hv
  unfold encE arr at hv
  rw [Array.mem_toList_iff, Array.mem_ofFn] at hv
  obtain ⟨i, rfl⟩ := hv
  exact ev_one e i
theorem encE_get (e : Ent) (c : Nat) (hc : c < 34) : (encE e)[c]! = ev e c := by
  rw [getElem!_pos (encE e) c (by rw [encE_len]; exact hc)]
  have h : (encE e)[c]? = some (ev e c) := by unfold encE; rw [Array.getElem?_toList]; exact arr_get _ _ _ hc
  exact (List.getElem?_eq_some_iff.1 h).2
def cfE (x y : Ent) : Int := Lib.compareBytes x.name y.name
theorem ltE (x y : Ent) : ltOf cfE x y = Op.bytesLess x.name y.name := cmp_less _ _
theorem swoE : SWO (ltOf cfE) where
  irrefl x := by rw [ltE]; exact bl_irrefl _
  trans x y z h1 h2 := by rw [ltE] at *; exact bl_trans _ _ _ h1 h2
  ntrans x y z h1 h2 := by
    rw [ltE] at *
    cases c : Op.bytesLess x.name z.name
    · rfl
    · cases c2 : Op.bytesLess y.name x.name
      · have e := bl_tri _ _ h1 c2
        rw [e, h2] at c
        cases c
      · have := bl_trans _ _ _ c2 c
        rw [h2] at this
        cases this
theorem bs_list (l : List UInt8) : (bs l).data.toList = l := by simp [bs]
set_option maxHeartbeats 1000000 in
set_option maxRecDepth 100000 in
theorem cmp_any (x y : Ent) (W : World) : Calls Tryz.prog 41 #[.agg (arr 34 (ev x)), .agg (arr 34 (ev y))] W fun e w' => e = .returned (.int .i64 (cfE x y)) ∧ ∃ q os', w' = grow (W.drewN q) os' := by
  have HC := fun W' => strings_Compare (bs x.name) (bs y.name) W'
  rw [bs_list, bs_list] at HC
  change ∀ W', Calls Tryz.prog 42 #[.string (bs x.name), .string (bs y.name)] W' fun e w' => e = .returned (.int .i64 (cfE x y)) ∧ w' = W' at HC
  have G : Hid ((W.alloc (.cells (arr 34 (ev x)) 56)).alloc (.cells (arr 34 (ev y)) 56) = grow (W.drewN 0) (#[.cells (arr 34 (ev x)) 56] ++ #[.cells (arr 34 (ev y)) 56])) := by
    show _ = _
    rw [alloc_eq_grow, alloc_eq_grow, grow_grow]; rfl
  have B0 : Blk ((W.alloc (.cells (arr 34 (ev x)) 56)).alloc (.cells (arr 34 (ev y)) 56)) W.heap.size 56 34 (ev x) := Blk.newAt _ (heap_alloc2_old W _ _) rfl
  have B1 : Blk ((W.alloc (.cells (arr 34 (ev x)) 56)).alloc (.cells (arr 34 (ev y)) 56)) (W.heap.size + 1) 56 34 (ev y) := Blk.newAt _ (heap_alloc2_new W _ _) rfl
  have c0 := B0.cell 0 (by omega)
  have c1 := B1.cell 0 (by omega)
  rw [show ev x 0 = .string (bs x.name) from rfl] at c0
  rw [show ev y 0 = .string (bs y.name) from rfl] at c1
  have HC := Lib.hid HC
  clear B0 B1
  generalize cfE x y = r at HC ⊢
  generalize bs x.name = sx at HC c0
  generalize bs y.name = sy at HC c1
  go_enter Tryz.func41, Tryz.ntmps41
  go_upto_region 1 with fail
  change Code.wp _ _ _ _ ((W.alloc (.cells (arr 34 (ev x)) 56)).alloc (.cells (arr 34 (ev y)) 56))
  generalize (W.alloc (.cells (arr 34 (ev x)) 56)).alloc (.cells (arr 34 (ev y)) 56) = w2 at G c0 c1 ⊢
  go_wp2_with fail
  refine (HC.out _).mono ?_
  rintro e w3 ⟨rfl, rfl⟩
  go_wp2
  go_ret
  exact ⟨rfl, 0, _, G.out⟩
end Go.Proofs.YtlbclfponongbaaGreatDoor
/- Entries sorted by their names: the library's contract at them. -/
namespace Go.Proofs.YtlbclfponongbaaGreatDoor
open Go.RowKit Go.Lib Classical
def lst (es : Nat → Ent) (n : Nat) : List Ent := (List.range n).map es
theorem lst_length (es : Nat → Ent) (n : Nat) : (lst es n).length = n := by simp [lst]
theorem lst_get (es : Nat → Ent) (n i : Nat) (h : i < n) : (lst es n)[i]? = some (es i) := by simp [lst, h]
def PermE (es fs : Nat → Ent) (n : Nat) : Prop := (lst es n).Perm (lst fs n)
def SortE (fs : Nat → Ent) (n : Nat) : Prop := ∀ i j, i < j → j < n → Op.bytesLess (fs j).name (fs i).name = false
theorem arr_lst (d : Array Ent) : d.toList = lst (fun i => d[i]!) d.size := by
  apply List.ext_getElem?
  intro i
  by_cases h : i < d.size
  · rw [lst_get _ _ _ h, Array.getElem?_toList, Array.getElem?_eq_getElem h, getElem!_pos d i h]
  · rw [List.getElem?_eq_none (by rw [Array.length_toList]; omega), List.getElem?_eq_none (by rw [lst_length]; omega)]
theorem lst_congr {es fs : Nat → Ent} {n : Nat} (h : ∀ i, i < n → es i = fs i) : lst es n = lst fs n := by
  unfold lst
  apply List.map_congr_left
  intro i hi
  exact h i (List.mem_range.1 hi)
theorem sort_block (w : World) (b off m : Nat) (d : Array Ent) (os : Array Obj) : Keep (fun k => k ≠ b) w (sortWorldK encE 34 w b off m d os) := by
  refine ⟨rfl, rfl, rfl, ?_, fun k hk hl => ?_⟩
  · unfold sortWorldK Sort.putRowK Sort.putRow Sort.mapBlock Sort.grow Sort.ahead
    simp
  · unfold sortWorldK
    rw [Sort.heap_grow_old _ _ (by unfold Sort.putRowK Sort.putRow Sort.mapBlock Sort.ahead; simpa using hl)]
    unfold Sort.putRowK Sort.putRow Sort.mapBlock Sort.ahead
    simp only [Array.getElem?_modify]
    rw [if_neg (fun e => hk e.symm)]
theorem holds_at {w : World} {b n : Nat} {d : Array Ent} (hd : d.size = n) (h : Sort.HoldsK encE 34 w b 0 d) : At w b 0 (n * 34) (ec fun i => d[i]!) ∧ ∀ j, j < n * 34 → w.frozen? ⟨b, 0 + j, none⟩ = false := by
  have key : ∀ j, j < n * 34 → w.cell? ⟨b, 0 + j, none⟩ = some (ec (fun i => d[i]!) j) ∧ w.frozen? ⟨b, 0 + j, none⟩ = false := fun j hj => by
    have h1 := h.cell (i := j / 34) (c := j % 34) (by omega) (by omega)
    rw [encE_get _ _ (by omega)] at h1
    have e : 0 + j / 34 * 34 + j % 34 = 0 + j := by omega
    rw [e] at h1
    exact h1
  exact ⟨fun j hj => (key j hj).1, fun j hj => (key j hj).2⟩
theorem at_holds {w : World} {b n : Nat} {es : Nat → Ent} (h : At w b 0 (n * 34) (ec es)) (hf : ∀ j, j < n * 34 → w.frozen? ⟨b, 0 + j, none⟩ = false) : Sort.HoldsK encE 34 w b 0 (Array.ofFn (fun i : Fin n => es i)) := by
  intro j hj
  have hj2 : j < n * 34 := by simpa using hj
  rw [Sort.get_flatK _ _ _ _ (by simpa using hj2), encE_get _ _ (by omega)]
  refine ⟨?_, hf j hj2⟩
  rw [h j hj2]
  have : j / 34 < n := by omega
  have e : (Array.ofFn (fun i : Fin n => es i))[j / 34]! = es (j / 34) := by rw [getElem!_pos _ _ (by simpa using this)]; simp
  rw [e]
  rfl
set_option maxRecDepth 100000 in
theorem sort_any (es : Nat → Ent) (n b c : Nat) (w : World) (hb : b < w.heap.size) (hA : At w b 0 (n * 34) (ec es)) (hf : ∀ j, j < n * 34 → w.frozen? ⟨b, 0 + j, none⟩ = false) (hn : n ≤ 100000) :
    Calls Tryz.prog 40 #[.slice (some ⟨b, 0, none⟩) n c, .func (.func 41) #[] #[]] w fun e w' => e = .returned (.tuple #[]) ∧ ∃ fs, PermE es fs n ∧ SortE fs n ∧ At w' b 0 (n * 34) (ec fs) ∧ (∀ j, j < n * 34 → w'.frozen? ⟨b, 0 + j, none⟩ = false) ∧ Keep (fun k => k ≠ b) w w' := by
  have eg : ∀ args w, (callFunc 41 args).run Tryz.prog w = .ok (.enter 41 args) w := enters_of Tryz.func41 (by kernel_rfl) rfl
  have hz : (Array.ofFn (fun i : Fin n => es i)).size = n := by simp
  have hH := at_holds hA hf
  have h := AnyQ.slices_SortFunc sortE 34 Tryz.isAgg56 Tryz.sizeOf56 encE encE_len encE_one cfE swoE 41 #[] b 0 c (Array.ofFn (fun i : Fin n => es i)) w eg
    (fun m os dk _ x y => by
      rw [Array.append_empty, encE_arr, encE_arr]
      exact cmp_any x y _) hH hb (by rw [hz]; omega)
  rw [hz] at h
  refine h.mono ?_
  rintro e w' ⟨h1, d', m, os, hp, hs, rfl⟩
  obtain ⟨p1, p2, p3⟩ := hp
  rw [hz] at p1
  have hH2 : Sort.HoldsK encE 34 (sortWorldK encE 34 w b 0 m d' os) b 0 d' := by
    unfold sortWorldK
    refine Sort.holdsK_grow _ _ _ _ _ _ _ (by unfold Sort.putRowK Sort.putRow Sort.mapBlock Sort.ahead; simpa using hb) ?_
    exact Sort.holdsK_putRowK encE 34 _ b 0 _ _ (Sort.holdsK_ahead _ _ _ _ _ _ _ hH) (by rw [p1, hz])
  obtain ⟨a1, a2⟩ := holds_at p1 hH2
  refine ⟨h1, fun i => d'[i]!, ?_, fun i j hij hj => ?_, a1, a2, sort_block _ _ _ _ _ _⟩
  · unfold PermE
    have e1 : lst es n = (Array.ofFn (fun i : Fin n => es i)).toList := by
      rw [arr_lst, hz]
      refine lst_congr fun i hi => ?_
      rw [getElem!_pos _ _ (by simpa using hi)]
      simp
    have e2 : lst (fun i => d'[i]!) n = d'.toList := by rw [arr_lst, p1]
    rw [e1, e2]
    have p4 := p3.symm
    rw [Array.extract_eq_self_of_le (by rw [hz]; omega), Array.extract_eq_self_of_le (by rw [p1]; omega)] at p4
    exact p4
  · have := hs i j (Nat.zero_le _) hij hj
    rw [ltE] at this
    exact this
theorem sort_none (p : Option Addr) (c : Nat) (fv : Value) (w : World) : Calls Tryz.prog 40 #[.slice p 0 c, fv] w fun e w' => e = .returned (.tuple #[]) ∧ w' = w :=
  AnyF.slices_SortFunc_none (P := Tryz.prog) (ρ := sortE_ren) { sortE with } p c fv w
end Go.Proofs.YtlbclfponongbaaGreatDoor
/- A list of entries cloned; of one list there is one order by names. -/
namespace Go.Proofs.YtlbclfponongbaaGreatDoor
open Go.RowKit Classical
set_option maxHeartbeats 1000000 in
set_option maxRecDepth 100000 in
theorem clone_zero (a : Addr) (c : Nat) (w : World) :
    Calls Tryz.prog 39 #[.slice (some a) 0 c] w fun e w' => ∃ v', e = .returned v' ∧ w'.ownsRow w.heap.size 56 34 v' 0 [] ∧ Below w.heap.size w w' := by
  obtain ⟨i0, hi0, hz0, hz1, hz2⟩ := info_parts iEntry
  have hzs := arr_size 34 (ev ⟨[], 0, fun _ => 0⟩)
  generalize arr 34 (ev ⟨[], 0, fun _ => 0⟩) = Z at hz0 hzs
  have q22 : ∀ (w : World) (a : Option Addr) (n c n' c' : Nat), (binOp .eql 32 (.slice a n c) (.slice none n' c')).run Tryz.prog w = .ok (.bool a.isNone) w := fun w a n c n' c' => Lib.run_eql_slice_nil w _ _ a n c n' c' tEntries
  go_enter Tryz.func39, Tryz.ntmps39
  go_wp2_with (at_builtin; refine wpList_append_own _ rfl _ _ 32 rfl w.heap.size 56 i0 (.agg Z) 34 56 tEntries hi0 hz0 hz1 hz2 hzs (by decide) _ _ _ rfl (World.ownsRow_made w #[] 0 (Nat.le_refl _) (Nat.zero_le _) (by simp)) a 0 c [] rfl ?qc1 ?qc2 ?qc3 ?qc4 ?qc5 ?qc6 ?_)
  case qc1 => rfl
  case qc2 => intro j u hj; simp at hj
  case qc3 => intro u hu; simp at hu
  case qc4 => decide
  case qc5 => decide
  case qc6 => simp
  intro v' w1 hown hgrow hnil
  go_wp2
  go_ret
  refine ⟨v', rfl, by simpa using hown, ?_⟩
  exact ((Below.refl _ w).alloc (Nat.le_refl _) _).grown hgrow (by simp) (by intro k hk; simp [Value.ownBlock] at hk; omega)
theorem clonee_any {es : Nat → Ent} {n : Nat} {v : Value} {w : World} (hR : Row w v 34 (ec es) n) (hn : n ≤ 100000) :
    Calls Tryz.prog 39 #[v] w fun e w' => ∃ v', e = .returned v' ∧ w'.ownsRow w.heap.size 56 34 v' n (arr (n * 34) (ec es)).toList ∧ Below w.heap.size w w' := by
  obtain ⟨ad, cap, rfl, ha⟩ := row_addr hR
  cases ad with
  | none =>
    by_cases h0 : 0 < n
    · obtain ⟨b, o, h1, _⟩ := ha h0
      cases h1
    · have e : n = 0 := by omega
      subst e
      have h := AnyE.slices_Clone_nil cloneE 0 cap w
      change Calls Tryz.prog 39 _ _ _ at h
      refine h.mono ?_
      rintro e w' ⟨rfl, rfl⟩
      exact ⟨_, rfl, World.ownsRow_nil _ _ _ _, Below.refl _ _⟩
  | some a =>
    by_cases h0 : 0 < n
    · obtain ⟨b, o, h1, h2, h3⟩ := ha h0
      cases h1
      obtain ⟨i0, hi0, hz0, hz1, hz2⟩ := info_parts iEntry
      have h := AnyE.slices_Clone cloneE i0 _ 34 56 hi0 hz0 hz1 hz2 (arr_size 34 _) (by decide) Tryz.sizeOf56 b o n cap (arr (n * 34) (ec es)).toList w (by rw [Array.length_toList, arr_size]) (by unfold maxLen; omega) (by omega) (fun j u hj => h3.range j u hj) (fun u hu => by
        rw [Array.mem_toList_iff] at hu
        unfold arr at hu
        rw [Array.mem_ofFn] at hu
        obtain ⟨i, rfl⟩ := hu
        exact ev_one _ _)
      change Calls Tryz.prog 39 _ _ _ at h
      refine h.mono ?_
      rintro e w' ⟨v', rfl, h5, -, h6⟩
      exact ⟨v', rfl, h5, h6⟩
    · have e : n = 0 := by omega
      subst e
      refine (clone_zero a cap w).mono ?_
      rintro e w' ⟨v', rfl, h5, h6⟩
      exact ⟨v', rfl, owns_congr h5 (by simp [arr]), h6⟩
/- the block of a row of the call's own -/
theorem owns_block {w : World} {B e m n : Nat} {v : Value} {c : Nat → Value} (h : w.ownsRow B e m v n (arr (n * m) c).toList) (h0 : 0 < n) : ∃ g cap, v = .slice (some ⟨g, 0, none⟩) n cap ∧ n ≤ cap ∧ B ≤ g ∧ g < w.heap.size ∧ At w g 0 (n * m) c ∧ ∀ j, w.frozen? ⟨g, j, none⟩ = false := by
  have hr := owns_row h
  rcases h.2 with ⟨rfl, h1⟩ | ⟨g, cap, cur, rfl, hb, hg, h2, h3, h4, h5⟩
  · omega
  · rcases hr with ⟨_, _, _, e⟩ | ⟨b, o, cap2, e, _, hc, hl, hA⟩
    · omega
    · cases e
      exact ⟨_, _, rfl, hc, hb, hl, hA, fun j => frozen_of_row w _ j _ _ hg⟩
/- strictly rising entries -/
theorem rising {gs : Nat → Ent} {n : Nat} (h : entsOk gs n) : ∀ j i, i < j → j < n → Op.bytesLess (gs i).name (gs j).name = true := by
  intro j
  induction j with
  | zero => intro i hi; omega
  | succ j ih =>
    intro i hi hj
    have h1 := h.2.2 j hj
    by_cases c : i = j
    · subst c; exact h1
    · exact bl_trans _ _ _ (ih i (by omega) (by omega)) h1
theorem lst_pair {R : Ent → Ent → Prop} (fs : Nat → Ent) (n : Nat) (h : ∀ i j, i < j → j < n → R (fs i) (fs j)) : (lst fs n).Pairwise R := by
  rw [List.pairwise_iff_getElem]
  intro i j hi hj hij
  simp only [lst, List.getElem_map, List.getElem_range]
  exact h i j hij (by simpa [lst] using hj)
theorem lst_mem {fs : Nat → Ent} {n : Nat} {x : Ent} (h : x ∈ lst fs n) : ∃ i, i < n ∧ fs i = x := by
  unfold lst at h
  obtain ⟨i, hi, rfl⟩ := List.mem_map.1 h
  exact ⟨i, List.mem_range.1 hi, rfl⟩
theorem sorted_one {es fs gs : Nat → Ent} {n : Nat} (hp : PermE es fs n) (hs : SortE fs n) (hq : PermE es gs n) (hg : entsOk gs n) : ∀ i, i < n → fs i = gs i := by
  have hpq : (lst fs n).Perm (lst gs n) := hp.symm.trans hq
  have e := List.Perm.eq_of_pairwise (le := fun a b => Op.bytesLess b.name a.name = false) (fun a b ha hb hab hba => by
      obtain ⟨i, hi, rfl⟩ := lst_mem (hpq.mem_iff.1 ha)
      obtain ⟨j, hj, rfl⟩ := lst_mem hb
      by_cases c : i = j
      · rw [c]
      · rcases Nat.lt_or_gt_of_ne c with c | c
        · have := rising hg _ _ c hj
          rw [this] at hba; cases hba
        · have := rising hg _ _ c hi
          rw [this] at hab; cases hab) (lst_pair fs n fun i j hij hj => hs i j hij hj) (lst_pair gs n fun i j hij hj => bl_asymm _ _ (rising hg _ _ hij hj)) hpq
  intro i hi
  have h1 := lst_get fs n i hi
  rw [e, lst_get gs n i hi] at h1
  exact (Option.some.inj h1).symm
end Go.Proofs.YtlbclfponongbaaGreatDoor
