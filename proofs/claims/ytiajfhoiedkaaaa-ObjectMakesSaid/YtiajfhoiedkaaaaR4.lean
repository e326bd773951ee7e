import Derived.Test.YtiajfhoiedkaaaaR1
/- A sorted list with one more entry; many entries appended to a row of the call's own. -/
namespace Go.Proofs.Ytiajfhoiedkaaaa
open Go.RowKit Go.Sort Classical
def ins (fs : Nat → Ent) (k : Nat) (x : Ent) (i : Nat) : Ent := if i < k then fs i else if i = k then x else fs (i - 1)
theorem lst_add (f : Nat → Ent) (a b : Nat) : lst f (a + b) = lst f a ++ lst (fun i => f (a + i)) b := by
  unfold lst
  rw [List.range_add, List.map_append, List.map_map]
  rfl
theorem ins_perm {es fs : Nat → Ent} {j k : Nat} (hk : k ≤ j) (h : PermE es fs j) : PermE es (ins fs k (es j)) (j + 1) := by
  unfold PermE at *
  have e1 : lst es (j + 1) = lst es j ++ [es j] := lst_add es j 1
  have e2 : lst (ins fs k (es j)) (j + 1) = lst fs k ++ (es j :: lst (fun i => fs (k + i)) (j - k)) := by
    rw [show j + 1 = k + (1 + (j - k)) by omega, lst_add, lst_add]
    have a1 : lst (ins fs k (es j)) k = lst fs k := lst_congr fun i hi => by unfold ins; rw [if_pos hi]
    have a2 : lst (fun i => ins fs k (es j) (k + i)) 1 = [es j] := by
      show [ins fs k (es j) (k + 0)] = _
      unfold ins
      rw [if_neg (by omega), if_pos (by omega)]
    have a3 : lst (fun i => (fun i => ins fs k (es j) (k + i)) (1 + i)) (j - k) = lst (fun i => fs (k + i)) (j - k) := lst_congr fun i hi => by
      show ins fs k (es j) (k + (1 + i)) = _
      unfold ins
      rw [if_neg (by omega), if_neg (by omega), show k + (1 + i) - 1 = k + i by omega]
    rw [a1, a2, a3]; rfl
  have e3 : lst fs j = lst fs k ++ lst (fun i => fs (k + i)) (j - k) := by
    rw [← lst_add, show k + (j - k) = j by omega]
  rw [e1, e2]
  refine (h.append_right _).trans ?_
  rw [e3]
  refine (List.perm_append_comm).trans ?_
  rw [List.singleton_append]
  exact (List.perm_middle).symm
theorem less_nn {a b c : Ent} (h1 : Op.bytesLess a.name b.name = false) (h2 : Op.bytesLess b.name c.name = false) : Op.bytesLess a.name c.name = false := by
  have := swoE.ntrans a b c (by rw [ltE]; exact h1) (by rw [ltE]; exact h2)
  rw [ltE] at this
  exact this
theorem ins_sort {fs : Nat → Ent} {j k : Nat} {x : Ent} (hk : k ≤ j) (h : SortE fs j) (h1 : ∀ i, k ≤ i → i < j → Op.bytesLess x.name (fs i).name = true) (h0 : k = 0 ∨ Op.bytesLess x.name (fs (k - 1)).name = false) : SortE (ins fs k x) (j + 1) := by
  intro a b hab hb
  unfold ins
  by_cases b1 : b < k
  · rw [if_pos b1, if_pos (by omega)]; exact h a b hab (by omega)
  · by_cases b2 : b = k
    · rw [if_neg b1, if_pos b2, if_pos (by omega)]
      rcases h0 with h0 | h0
      · omega
      · by_cases c : a = k - 1
        · rw [c]; exact h0
        · exact less_nn h0 (h a (k - 1) (by omega) (by omega))
    · rw [if_neg b1, if_neg b2]
      by_cases a1 : a < k
      · rw [if_pos a1]; exact h a (b - 1) (by omega) (by omega)
      · by_cases a2 : a = k
        · rw [if_neg a1, if_pos a2]; exact bl_asymm _ _ (h1 (b - 1) (by omega) (by omega))
        · rw [if_neg a1, if_neg a2]; exact h (a - 1) (b - 1) (by omega) (by omega)
theorem app_rows {B : Nat} {w : World} {v : Value} {n m cap : Nat} {ad : Option Addr} {c : Nat → Value} (ty : TypeId) (h1 : ∀ j, (c j).oneCell' = true) (ho : w.ownsRow B 51 34 v n (arr (n * 34) c).toList) (hR : Row w (.slice ad m cap) 34 (fun i => c (n * 34 + i)) m) (hB : B ≤ w.heap.size) (hn : n + m ≤ 1000) :
    ∃ v' w', (Builtin.append_ #[31, 31] ty #[v, .slice ad m cap]).run Try.prog w = .ok v' w' ∧ w'.ownsRow B 51 34 v' (n + m) (arr ((n + m) * 34) c).toList ∧ Keep (fun k => v.ownBlock ≠ some k) w w' ∧ (∀ g, v'.ownBlock = some g → v.ownBlock = some g ∨ g = w.heap.size) := by
  obtain ⟨i0, hi0, hz0, hz1, hz2⟩ := info_parts iEntry
  cases ad with
  | none =>
    have e : m = 0 := by
      obtain ⟨ad2, cap2, e, ha⟩ := row_addr hR
      cases e
      by_cases h : 0 < m
      · obtain ⟨b, o, h, _⟩ := ha h; cases h
      · omega
    subst e
    refine ⟨v, w, ?_, by simpa using ho, Keep.refl _ _, fun g h => Or.inl h⟩
    rcases ho.2 with ⟨rfl, rfl⟩ | ⟨g, cap, cur, rfl, _, _, hnc, _⟩
    · simp [Builtin.append_, run_underlying tEntries, sizeOf, typeInfo, hi0, Builtin.lenOf, Builtin.firstCells]
    · simp [Builtin.append_, run_underlying tEntries, sizeOf, typeInfo, hi0, Builtin.lenOf, Builtin.firstCells, hnc, storeCells]
  | some a =>
    have hsrc : ∀ j u, (arr (m * 34) (fun i => c (n * 34 + i))).toList[j]? = some u → w.cell? (a.add j) = some u := by
      intro j u hj
      by_cases h : 0 < m
      · obtain ⟨ad2, cap2, e, ha⟩ := row_addr hR
        cases e
        obtain ⟨b, o, e, hb, hc⟩ := ha h
        cases e
        rw [Addr.add_mid]
        exact hc.range j u hj
      · have e : m = 0 := by omega
        subst e
        simp [arr] at hj
    obtain ⟨v', w', hr, h2, h3, -, h5⟩ := run_append_own_at (P := Try.prog) w B 31 ty 51 i0 _ 34 56 tEntries hi0 hz0 hz1 hz2 (arr_size 34 _) (by decide) v n _ ho a m cap (arr (m * 34) (fun i => c (n * 34 + i))).toList (by rw [Array.length_toList, arr_size]) hsrc (fun u hu => by
      rw [Array.mem_toList_iff] at hu
      unfold arr at hu
      rw [Array.mem_ofFn] at hu
      obtain ⟨i, rfl⟩ := hu
      exact h1 _) (by unfold maxLen; omega) (by omega) hB
    refine ⟨v', w', hr, ?_, (Keep.refl _ w).grown h3 (fun k hk h => h hk), fun g hg => ?_⟩
    · rw [arr_add, ← Nat.add_mul] at h2
      exact h2
    · rcases h5 with h5 | h5
      · exact Or.inl (by rw [← h5]; exact hg)
      · rw [h5] at hg; cases hg; exact Or.inr rfl
def backA (ad : Option Addr) (cap k : Nat) : Option Addr := if cap = k then ad else ad.map (·.add (k * 34))
theorem ex_sliceA {o : Oper} {a : Act} {w : World} (x y : Operand) (ho : o.op = .slice 31 x none (some y) none) (ad : Option Addr) (hz : ∀ p, ad = some p → p.add 0 = p) (n c k : Nat) (hx : a.eval x = .slice ad n c) (hy : a.eval y = .int .i64 (k : Int)) (hk : k ≤ c) :
    (execOp a.eval o).run Try.prog w = .ok (.value (.slice ad k c)) w := by
  have hm : (ad.map (·.add 0)) = ad := by cases ad with | none => rfl | some p => simp [hz p rfl]
  have hr : (Instr.sliceAt 31 (.slice ad n c) none (some (.int .i64 (k : Int))) none).run Try.prog w = .ok (.slice ad k c) w := by
    rw [run_sliceAt_slice (h := tE2), run_slice_h (ht := tE2) (h0 := by omega) (h2 := by omega), szE2]
    simp [Result.andThen, sliced, hm]
  unfold execOp
  simp only [ho, hx, hy, Option.map_none, Option.map_some, Sem.run_bind, hr, Result.andThen_ok]
  rfl
theorem ex_sliceB {o : Oper} {a : Act} {w : World} (x y : Operand) (ho : o.op = .slice 31 x (some y) none none) (ad : Option Addr) (n c k : Nat) (hx : a.eval x = .slice ad n c) (hy : a.eval y = .int .i64 (k : Int)) (hk : k ≤ n) :
    (execOp a.eval o).run Try.prog w = .ok (.value (.slice (backA ad c k) (n - k) (c - k))) w := by
  have hr : (Instr.sliceAt 31 (.slice ad n c) (some (.int .i64 (k : Int))) none none).run Try.prog w = .ok (.slice (backA ad c k) (n - k) (c - k)) w := by
    rw [run_sliceAt_slice (h := tE2), run_slice_l (ht := tE2) (h0 := by omega) (h1 := by omega), szE2]
    simp [Result.andThen, sliced, backA]
  unfold execOp
  simp only [ho, hx, hy, Option.map_none, Option.map_some, Sem.run_bind, hr, Result.andThen_ok]
  rfl
/- the list so far: a row of the call's own -/
structure So (w0 : World) (es : Nat → Ent) (fs : Nat → Ent) (j : Nat) (v : Value) (w : World) : Prop where
  keep : Below w0.heap.size w0 w
  own : w.ownsRow w0.heap.size 51 34 v j (arr (j * 34) (ec fs)).toList
  perm : PermE es fs j
  sort : SortE fs j
theorem So.step {w0 : World} {es fs : Nat → Ent} {j : Nat} {v : Value} {w w' : World} (h : So w0 es fs j v w) (hb : Below w.heap.size w w') : So w0 es fs j v w' := ⟨h.keep.trans (hb.mono h.keep.size), owns_all h.own hb, h.perm, h.sort⟩
/- what stands when a place k is found: all behind it is greater -/
def Gr (es fs : Nat → Ent) (j k : Nat) : Prop := ∀ i, k ≤ i → i < j → Op.bytesLess (es j).name (fs i).name = true
theorem so_add {w0 w : World} {es fs : Nat → Ent} {j cap : Nat} {ad : Option Addr} (h : So w0 es fs j (.slice ad j cap) w) : (∀ p, ad = some p → p.add 0 = p) ∧ j ≤ cap := by
  rcases h.own.2 with ⟨e, rfl⟩ | ⟨g, c, cur, e, hb, hg, h2, h3, h4, h5⟩
  · cases e; exact ⟨fun p e => (by cases e), Nat.le_refl _⟩
  · cases e; exact ⟨fun p e => (by cases e; rw [Addr.add_mid]), h2⟩
theorem so_first {w0 w : World} {es fs : Nat → Ent} {j cap : Nat} {ad : Option Addr} (h : So w0 es fs j (.slice ad j cap) w) (k : Nat) (hk : k ≤ j) (x : Ent) : Row w (.slice ad k cap) 34 (fun i => ec (ins fs k x) (0 * 34 + i)) k := by
  by_cases h0 : k = 0
  · subst h0; exact Or.inl ⟨_, _, rfl, rfl⟩
  · obtain ⟨g, c, e, hc, hB, hl, hA, -⟩ := owns_block h.own (by omega)
    cases e
    exact row_of (by omega) fun _ => ⟨g, 0, rfl, hl, fun i hi => by
      rw [hA i (by omega)]
      unfold ec ins
      dsimp only
      rw [if_pos (by omega), show 0 * 34 + i = i by omega]⟩
theorem so_rest {w0 w : World} {es fs : Nat → Ent} {j cap : Nat} {ad : Option Addr} (h : So w0 es fs j (.slice ad j cap) w) (k : Nat) (hk : k ≤ j) (x : Ent) : Row w (.slice (backA ad cap k) (j - k) (cap - k)) 34 (fun i => ec (ins fs k x) ((k + 1) * 34 + i)) (j - k) := by
  by_cases h0 : j - k = 0
  · rw [h0]; exact Or.inl ⟨_, _, rfl, rfl⟩
  · obtain ⟨g, c, e, hc, hB, hl, hA, -⟩ := owns_block h.own (by omega)
    cases e
    have e2 : backA (some ⟨g, 0, none⟩) cap k = some ⟨g, 0 + k * 34, none⟩ := by
      unfold backA
      rw [if_neg (by omega), Option.map_some, Addr.add_mid]
    rw [e2]
    exact row_of (by omega) fun _ => ⟨g, 0 + k * 34, rfl, hl, fun i hi => by
      have := hA (k * 34 + i) (by omega)
      rw [show 0 + k * 34 + i = 0 + (k * 34 + i) by omega, this]
      unfold ec ins
      dsimp only
      rw [if_neg (by omega), if_neg (by omega), show ((k + 1) * 34 + i) / 34 - 1 = (k * 34 + i) / 34 by omega, show ((k + 1) * 34 + i) % 34 = (k * 34 + i) % 34 by omega]⟩
theorem three_app {w0 w : World} {es fs : Nat → Ent} {j cap : Nat} {ad : Option Addr} (h : So w0 es fs j (.slice ad j cap) w) (k : Nat) (hk : k ≤ j) (hj : j < 100) (hG : Gr es fs j k) (h0 : k = 0 ∨ Op.bytesLess (es j).name (fs (k - 1)).name = false) {b p : Nat} (hA : At w b p 34 (ev (es j))) (hb : b < w.heap.size) :
    ∃ v1 w1 g2 c2 w2 v3 w3, (Builtin.append_ #[31, 31] 31 #[.slice none 0 0, .slice ad k cap]).run Try.prog w = .ok v1 w1 ∧ At w1 b p 34 (ev (es j)) ∧
      (Builtin.append_ #[31, 31] 31 #[v1, .slice (some ⟨w1.heap.size, 0, none⟩) 1 1]).run Try.prog (w1.alloc (.cells (arr 34 (ev (es j))) 51)) = .ok (.slice (some ⟨g2, 0, none⟩) (k + 1) c2) w2 ∧
      (Builtin.append_ #[31, 31] 31 #[.slice (some ⟨g2, 0, none⟩) (k + 1) c2, .slice (backA ad cap k) (j - k) (cap - k)]).run Try.prog w2 = .ok v3 w3 ∧ So w0 es (ins fs k (es j)) (j + 1) v3 w3 := by
  have hB := h.keep.size
  have one : ∀ i, (ec (ins fs k (es j)) i).oneCell' = true := fun i => ev_one _ _
  obtain ⟨v1, w1, r1, o1, k1, b1⟩ := app_rows 31 (B := w0.heap.size) (c := ec (ins fs k (es j))) one (by rw [Nat.zero_mul]; exact World.ownsRow_nil _ _ _ _) (so_first h k hk (es j)) hB (by omega)
  rw [Nat.zero_add] at o1
  have kk1 : Keep (fun _ => True) w w1 := k1.mono fun b _ _ e => by cases e
  obtain ⟨g2, c2, w2, r2, o2, k2, b2⟩ := app_own tEntries iEntry (arr_size 34 _) (by decide) (by decide) (arr 34 (ev (es j))) (arr_congr fun i hi => by
    rw [ec_at _ _ _ hi]
    unfold ins
    rw [if_neg (by omega), if_pos rfl]) one o1 (Nat.le_trans hB k1.size) (by omega)
  have nb : ∀ g, v1.ownBlock = some g → g = w.heap.size := fun g hg => by
    rcases b1 g hg with e | e
    · cases e
    · exact e
  have kk2 : Keep (fun b => b < w.heap.size) w w2 := (kk1.mono fun _ _ _ => trivial).trans (k2.mono fun b hb _ e => by have := nb b e; omega)
  have row2 := so_rest h k hk (es j)
  obtain ⟨v3, w3, r3, o3, k3, b3⟩ := app_rows 31 one o2 (row2.keepB kk2 fun _ h => h) (Nat.le_trans hB kk2.size) (by omega)
  rw [show k + 1 + (j - k) = j + 1 by omega] at o3
  refine ⟨v1, w1, g2, c2, w2, v3, w3, r1, hA.keep kk1 trivial, r2, r3, ⟨?_, o3, ins_perm hk h.perm, ins_sort hk h.sort hG h0⟩⟩
  have g2w : w0.heap.size ≤ g2 := (own_lt o2 rfl).1
  refine (((keepAll h.keep).trans (kk2.mono fun b hb _ => by omega)).trans (k3.mono fun b hb _ e => ?_)).below (Nat.le_refl _)
  have e2 : g2 = b := by simpa [Value.ownBlock] using e
  omega
set_option maxHeartbeats 3000000 in
set_option maxRecDepth 100000 in
theorem sorted_any (es : Nat → Ent) (v : Value) (n : Nat) (w : World) (hR : Row w v 34 (ec es) n) (hn : n ≤ 100) :
    Calls Try.prog 15 #[v] w fun e w' => ∃ v' fs, e = .returned v' ∧ Row w' v' 34 (ec fs) n ∧ PermE es fs n ∧ SortE fs n ∧ Below w.heap.size w w' := by
  obtain ⟨ad, cap, rfl, -⟩ := row_addr hR
  have R0 := Lib.hid hR
  have S0 : Hid (So w es (fun _ => zE) 0 (.slice none 0 0) w) := ⟨Below.refl _ _, by rw [Nat.zero_mul]; exact World.ownsRow_nil _ _ _ _, List.Perm.refl _, fun a b _ h => absurd h (by omega)⟩
  clear hR
  go_enter Try.func15, Try.ntmps15
  go_wp2
  go_loopw [3, 4] (fun u i wr => ∃ (j : Nat) (x : Value) (fs : Nat → Ent), j ≤ n ∧ i = .int .i64 j ∧ x = u ∧ Hid (So w es fs j x wr)) (fun _ i _ => n - (intOf i).toNat)
  case atStart => exact ⟨0, _, _, Nat.zero_le _, rfl, rfl, S0⟩
  case round =>
    obtain ⟨j, x, fs, hj, rfl, rfl, hS⟩ := hrel
    obtain ⟨ad3, cap3, rfl⟩ := owns_shape hS.out.own
    by_cases hlt : j < n
    · have zj : (0 : Int) ≤ (j : Int) := by omega
      have yj : (j : Int) < (n : Int) := by omega
      have HLT := Lib.hid hlt
      obtain ⟨ad2, cap2, e, ha⟩ := row_addr (R0.out.below hS.out.keep)
      cases e
      obtain ⟨b, o, rfl, hb, hA⟩ := ha (by omega)
      obtain ⟨ad4, cap4, e, hf⟩ := row_addr (owns_row hS.out.own)
      cases e
      have HF := Lib.hid hf
      have HE := Lib.hid (hA.ent j hlt)
      have G0 : Hid (Gr es fs j j) := fun i h1 h2 => absurd h2 (by omega)
      have B0 : Hid (Below wr.heap.size wr wr) := Below.refl _ _
      have HB : Hid (b < wr.heap.size) := hb
      clear ha hA hf hb hlt
      go_wp2
      go_loopw [5] (fun u wq => ∃ k : Nat, k ≤ j ∧ u = .int .i64 k ∧ Hid (Gr es fs j k) ∧ Hid (Below wr.heap.size wr wq)) (fun u _ => (intOf u).toNat)
      case atStart => exact ⟨j, Nat.le_refl _, rfl, G0, B0⟩
      case round =>
        obtain ⟨k, hkj, rfl, hG, hL⟩ := hrel
        have ce : wr.cell? ⟨b, o + j * 34, none⟩ = some (.string (bs (es j).name)) := (HE.out.below hL.out HB.out) 0 (by omega)
        have ways : k = 0 ∨ ∃ m, k = m + 1 := by rcases k with _ | m; exact Or.inl rfl; exact Or.inr ⟨m, rfl⟩
        rcases ways with rfl | ⟨m, rfl⟩
        · have Z0 : Hid (0 = 0 ∨ Op.bytesLess (es j).name (fs (0 - 1)).name = false) := Or.inl rfl
          go_wp2
          go_quiet (fail)
          rename_i nq
          have LQ : Hid (Below _ _ (wr.drewN nq)) := below_drewN hL.out nq
          clear ce hL
          generalize wr.drewN nq = wq at LQ ⊢
          have hz := so_add (hS.out.step LQ.out)
          obtain ⟨v1, w1, g2, c2, w2, v3, w3, r1, a1, r2, r3, S3⟩ := three_app (hS.out.step LQ.out) 0 (by omega) (by omega) hG.out (by first | exact Z0.out | exact Or.inl rfl) (HE.out.below LQ.out HB.out) (Nat.lt_of_lt_of_le HB.out LQ.out.size)
          have A1 := Lib.hid a1
          have S3' := Lib.hid S3
          have HZ := Lib.hid hz
          clear a1 S3 hz
          go_upto_region 9 with fail
          refine wp_region_lit ?_
          refine wpList_valS (v := ?_) (by kernel_rfl) ?_ ?_
          rotate_left 1
          · (go_simp; try with_reducible rfl)
          try simp only [Act.put, List.setIfInBounds_toArray, List.set_cons_zero, List.set_cons_succ]
          refine wpList_valS (v := ?_) (by kernel_rfl) ?_ ?_
          rotate_left 1
          · (go_simp; try with_reducible rfl)
          try simp only [Act.put, List.setIfInBounds_toArray, List.set_cons_zero, List.set_cons_succ]
          refine wpList_valS (v := ?_) (by kernel_rfl) ?_ ?_
          rotate_left 1
          · (go_simp; try with_reducible rfl)
          try simp only [Act.put, List.setIfInBounds_toArray, List.set_cons_zero, List.set_cons_succ]
          refine wpList_valG (by kernel_rfl) (ex_sliceA (.tmp 34) (.tmp 35) rfl ad3 HZ.out.1 j cap3 0 rfl rfl (by have := HZ.out.2; omega)) ?_
          try simp only [Act.put, List.setIfInBounds_toArray, List.set_cons_zero, List.set_cons_succ]
          refine wpList_valG (by kernel_rfl) (ex_append (.tmp 33) (.tmp 36) 31 31 rfl rfl rfl r1) ?_
          try simp only [Act.put, List.setIfInBounds_toArray, List.set_cons_zero, List.set_cons_succ]
          refine wpList_valS (v := ?_) (by kernel_rfl) ?_ ?_
          rotate_left 1
          · (go_simp; try with_reducible rfl)
          try simp only [Act.put, List.setIfInBounds_toArray, List.set_cons_zero, List.set_cons_succ]
          refine wpList_nil ?_
          clear r1
          go_upto_region 10 with fail
          refine wp_region_lit ?_
          refine wpList_valS (v := ?_) (by kernel_rfl) ?_ ?_
          rotate_left 1
          · (go_simp; try with_reducible rfl)
          try simp only [Act.put, List.setIfInBounds_toArray, List.set_cons_zero, List.set_cons_succ]
          refine wpList_valS (v := ?_) (by kernel_rfl) ?_ ?_
          rotate_left 1
          · (go_simp; try with_reducible rfl)
          try simp only [Act.put, List.setIfInBounds_toArray, List.set_cons_zero, List.set_cons_succ]
          refine wpList_valS (v := ?_) (by kernel_rfl) ?_ ?_
          rotate_left 1
          · (go_simp; try with_reducible rfl)
          try simp only [Act.put, List.setIfInBounds_toArray, List.set_cons_zero, List.set_cons_succ]
          refine wpList_valG (by kernel_rfl) (ex_index 31 51 (.tmp 39) (.tmp 40) rfl b o j n cap 34 rfl rfl tEntries szEntry HLT.out) ?_
          try simp only [Act.put, List.setIfInBounds_toArray, List.set_cons_zero, List.set_cons_succ]
          refine wpList_valG (by kernel_rfl) (ex_load 51 (.tmp 41) rfl b (o + j * 34) 34 (ev (es j)) rfl Try.underlying51 rfl szEntry A1.out) ?_
          try simp only [Act.put, List.setIfInBounds_toArray, List.set_cons_zero, List.set_cons_succ]
          refine wpList_valG (by kernel_rfl) (ex_bslice 31 51 (.tmp 42) rfl 34 (ev (es j)) rfl tEntries zEntry (by decide) (by decide)) ?_
          try simp only [Act.put, List.setIfInBounds_toArray, List.set_cons_zero, List.set_cons_succ]
          refine wpList_valG (by kernel_rfl) (ex_append (.tmp 38) (.tmp 43) 31 31 rfl rfl rfl r2) ?_
          try simp only [Act.put, List.setIfInBounds_toArray, List.set_cons_zero, List.set_cons_succ]
          refine wpList_valS (v := ?_) (by kernel_rfl) ?_ ?_
          rotate_left 1
          · (go_simp; try with_reducible rfl)
          try simp only [Act.put, List.setIfInBounds_toArray, List.set_cons_zero, List.set_cons_succ]
          refine wpList_nil ?_
          clear r2
          go_upto_region 11 with fail
          refine wp_region_lit ?_
          refine wpList_valS (v := ?_) (by kernel_rfl) ?_ ?_
          rotate_left 1
          · (go_simp; try with_reducible rfl)
          try simp only [Act.put, List.setIfInBounds_toArray, List.set_cons_zero, List.set_cons_succ]
          refine wpList_valS (v := ?_) (by kernel_rfl) ?_ ?_
          rotate_left 1
          · (go_simp; try with_reducible rfl)
          try simp only [Act.put, List.setIfInBounds_toArray, List.set_cons_zero, List.set_cons_succ]
          refine wpList_valS (v := ?_) (by kernel_rfl) ?_ ?_
          rotate_left 1
          · (go_simp; try with_reducible rfl)
          try simp only [Act.put, List.setIfInBounds_toArray, List.set_cons_zero, List.set_cons_succ]
          refine wpList_valG (by kernel_rfl) (ex_sliceB (.tmp 46) (.tmp 47) rfl ad3 j cap3 0 rfl rfl (by omega)) ?_
          try simp only [Act.put, List.setIfInBounds_toArray, List.set_cons_zero, List.set_cons_succ]
          refine wpList_valG (by kernel_rfl) (ex_append (.tmp 45) (.tmp 48) 31 31 rfl rfl rfl r3) ?_
          try simp only [Act.put, List.setIfInBounds_toArray, List.set_cons_zero, List.set_cons_succ]
          refine wpList_valS (v := ?_) (by kernel_rfl) ?_ ?_
          rotate_left 1
          · (go_simp; try with_reducible rfl)
          try simp only [Act.put, List.setIfInBounds_toArray, List.set_cons_zero, List.set_cons_succ]
          refine wpList_nil ?_
          clear r3
          go_wp2
          go_roundw
          case rel => exact ⟨j + 1, _, _, HLT.out, by go_num, rfl, S3'⟩
          case measure => simp [intOf]; have := HLT.out; omega
        · obtain ⟨b2, o2, rfl, hb2, hc2⟩ := HF.out (by omega)
          have cm : wr.cell? ⟨b2, o2 + m * 34, none⟩ = some (.string (bs (fs m).name)) := (hc2.below hL.out hb2).ent m (by omega) 0 (by omega)
          have zm : (0 : Int) ≤ (m : Int) := by omega
          have ym : (m : Int) < (j : Int) := by omega
          have wm : IntKind.i64.wrap (m : Int) = (m : Int) := IntWalk.i64_in _ (by omega)
          have wm2 : IntKind.i64.wrap ((m : Int) + 1 - 1) = (m : Int) := by rw [show (m : Int) + 1 - 1 = (m : Int) by omega]; exact wm
          by_cases hl : Op.bytesLess (es j).name (fs m).name = true
          · obtain ⟨bl1, bl2⟩ := less_le _ _ hl
            have G2 : Hid (Gr es fs j m) := fun i h1 h2 => by
              by_cases c : i = m
              · rw [c]; exact hl
              · exact hG.out i (by omega) h2
            generalize bs (es j).name = s1 at ce bl1 bl2
            generalize bs (fs m).name = s2 at cm bl1 bl2
            clear hl hb2 hc2
            go_wp2
            go_quiet (fail)
            go_wp2
            go_roundw
            case rel => exact ⟨m, by omega, by go_num, G2, below_drewN hL.out _⟩
            case measure => simp [intOf]
          · have Z0 : Hid (m + 1 = 0 ∨ Op.bytesLess (es j).name (fs (m + 1 - 1)).name = false) := Or.inr (by simpa using hl)
            have bl := not_less_le _ _ hl
            generalize bs (es j).name = s1 at ce bl
            generalize bs (fs m).name = s2 at cm bl
            clear hl hb2 hc2
            rcases bl with bl1 | ⟨bl1, bl2⟩
            · go_wp2
              go_quiet (fail)
              rename_i nq
              have LQ : Hid (Below _ _ (wr.drewN nq)) := below_drewN hL.out nq
              clear ce hL cm bl1  zm ym wm wm2
              generalize wr.drewN nq = wq at LQ ⊢
              have hz := so_add (hS.out.step LQ.out)
              obtain ⟨v1, w1, g2, c2, w2, v3, w3, r1, a1, r2, r3, S3⟩ := three_app (hS.out.step LQ.out) (m + 1) (by omega) (by omega) hG.out (by first | exact Z0.out | exact Or.inl rfl) (HE.out.below LQ.out HB.out) (Nat.lt_of_lt_of_le HB.out LQ.out.size)
              have A1 := Lib.hid a1
              have S3' := Lib.hid S3
              have HZ := Lib.hid hz
              clear a1 S3 hz
              go_upto_region 9 with fail
              refine wp_region_lit ?_
              refine wpList_valS (v := ?_) (by kernel_rfl) ?_ ?_
              rotate_left 1
              · (go_simp; try with_reducible rfl)
              try simp only [Act.put, List.setIfInBounds_toArray, List.set_cons_zero, List.set_cons_succ]
              refine wpList_valS (v := ?_) (by kernel_rfl) ?_ ?_
              rotate_left 1
              · (go_simp; try with_reducible rfl)
              try simp only [Act.put, List.setIfInBounds_toArray, List.set_cons_zero, List.set_cons_succ]
              refine wpList_valS (v := ?_) (by kernel_rfl) ?_ ?_
              rotate_left 1
              · (go_simp; try with_reducible rfl)
              try simp only [Act.put, List.setIfInBounds_toArray, List.set_cons_zero, List.set_cons_succ]
              refine wpList_valG (by kernel_rfl) (ex_sliceA (.tmp 34) (.tmp 35) rfl (some ⟨b2, o2, none⟩) HZ.out.1 j cap3 (m + 1) rfl rfl (by have := HZ.out.2; omega)) ?_
              try simp only [Act.put, List.setIfInBounds_toArray, List.set_cons_zero, List.set_cons_succ]
              refine wpList_valG (by kernel_rfl) (ex_append (.tmp 33) (.tmp 36) 31 31 rfl rfl rfl r1) ?_
              try simp only [Act.put, List.setIfInBounds_toArray, List.set_cons_zero, List.set_cons_succ]
              refine wpList_valS (v := ?_) (by kernel_rfl) ?_ ?_
              rotate_left 1
              · (go_simp; try with_reducible rfl)
              try simp only [Act.put, List.setIfInBounds_toArray, List.set_cons_zero, List.set_cons_succ]
              refine wpList_nil ?_
              clear r1
              go_upto_region 10 with fail
              refine wp_region_lit ?_
              refine wpList_valS (v := ?_) (by kernel_rfl) ?_ ?_
              rotate_left 1
              · (go_simp; try with_reducible rfl)
              try simp only [Act.put, List.setIfInBounds_toArray, List.set_cons_zero, List.set_cons_succ]
              refine wpList_valS (v := ?_) (by kernel_rfl) ?_ ?_
              rotate_left 1
              · (go_simp; try with_reducible rfl)
              try simp only [Act.put, List.setIfInBounds_toArray, List.set_cons_zero, List.set_cons_succ]
              refine wpList_valS (v := ?_) (by kernel_rfl) ?_ ?_
              rotate_left 1
              · (go_simp; try with_reducible rfl)
              try simp only [Act.put, List.setIfInBounds_toArray, List.set_cons_zero, List.set_cons_succ]
              refine wpList_valG (by kernel_rfl) (ex_index 31 51 (.tmp 39) (.tmp 40) rfl b o j n cap 34 rfl rfl tEntries szEntry HLT.out) ?_
              try simp only [Act.put, List.setIfInBounds_toArray, List.set_cons_zero, List.set_cons_succ]
              refine wpList_valG (by kernel_rfl) (ex_load 51 (.tmp 41) rfl b (o + j * 34) 34 (ev (es j)) rfl Try.underlying51 rfl szEntry A1.out) ?_
              try simp only [Act.put, List.setIfInBounds_toArray, List.set_cons_zero, List.set_cons_succ]
              refine wpList_valG (by kernel_rfl) (ex_bslice 31 51 (.tmp 42) rfl 34 (ev (es j)) rfl tEntries zEntry (by decide) (by decide)) ?_
              try simp only [Act.put, List.setIfInBounds_toArray, List.set_cons_zero, List.set_cons_succ]
              refine wpList_valG (by kernel_rfl) (ex_append (.tmp 38) (.tmp 43) 31 31 rfl rfl rfl r2) ?_
              try simp only [Act.put, List.setIfInBounds_toArray, List.set_cons_zero, List.set_cons_succ]
              refine wpList_valS (v := ?_) (by kernel_rfl) ?_ ?_
              rotate_left 1
              · (go_simp; try with_reducible rfl)
              try simp only [Act.put, List.setIfInBounds_toArray, List.set_cons_zero, List.set_cons_succ]
              refine wpList_nil ?_
              clear r2
              go_upto_region 11 with fail
              refine wp_region_lit ?_
              refine wpList_valS (v := ?_) (by kernel_rfl) ?_ ?_
              rotate_left 1
              · (go_simp; try with_reducible rfl)
              try simp only [Act.put, List.setIfInBounds_toArray, List.set_cons_zero, List.set_cons_succ]
              refine wpList_valS (v := ?_) (by kernel_rfl) ?_ ?_
              rotate_left 1
              · (go_simp; try with_reducible rfl)
              try simp only [Act.put, List.setIfInBounds_toArray, List.set_cons_zero, List.set_cons_succ]
              refine wpList_valS (v := ?_) (by kernel_rfl) ?_ ?_
              rotate_left 1
              · (go_simp; try with_reducible rfl)
              try simp only [Act.put, List.setIfInBounds_toArray, List.set_cons_zero, List.set_cons_succ]
              refine wpList_valG (by kernel_rfl) (ex_sliceB (.tmp 46) (.tmp 47) rfl (some ⟨b2, o2, none⟩) j cap3 (m + 1) rfl rfl (by omega)) ?_
              try simp only [Act.put, List.setIfInBounds_toArray, List.set_cons_zero, List.set_cons_succ]
              refine wpList_valG (by kernel_rfl) (ex_append (.tmp 45) (.tmp 48) 31 31 rfl rfl rfl r3) ?_
              try simp only [Act.put, List.setIfInBounds_toArray, List.set_cons_zero, List.set_cons_succ]
              refine wpList_valS (v := ?_) (by kernel_rfl) ?_ ?_
              rotate_left 1
              · (go_simp; try with_reducible rfl)
              try simp only [Act.put, List.setIfInBounds_toArray, List.set_cons_zero, List.set_cons_succ]
              refine wpList_nil ?_
              clear r3
              go_wp2
              go_roundw
              case rel => exact ⟨j + 1, _, _, HLT.out, by go_num, rfl, S3'⟩
              case measure => simp [intOf]; have := HLT.out; omega
            · go_wp2
              go_quiet (fail)
              rename_i nq
              have LQ : Hid (Below _ _ (wr.drewN nq)) := below_drewN hL.out nq
              clear ce hL cm bl1 bl2 zm ym wm wm2
              generalize wr.drewN nq = wq at LQ ⊢
              have hz := so_add (hS.out.step LQ.out)
              obtain ⟨v1, w1, g2, c2, w2, v3, w3, r1, a1, r2, r3, S3⟩ := three_app (hS.out.step LQ.out) (m + 1) (by omega) (by omega) hG.out (by first | exact Z0.out | exact Or.inl rfl) (HE.out.below LQ.out HB.out) (Nat.lt_of_lt_of_le HB.out LQ.out.size)
              have A1 := Lib.hid a1
              have S3' := Lib.hid S3
              have HZ := Lib.hid hz
              clear a1 S3 hz
              go_upto_region 9 with fail
              refine wp_region_lit ?_
              refine wpList_valS (v := ?_) (by kernel_rfl) ?_ ?_
              rotate_left 1
              · (go_simp; try with_reducible rfl)
              try simp only [Act.put, List.setIfInBounds_toArray, List.set_cons_zero, List.set_cons_succ]
              refine wpList_valS (v := ?_) (by kernel_rfl) ?_ ?_
              rotate_left 1
              · (go_simp; try with_reducible rfl)
              try simp only [Act.put, List.setIfInBounds_toArray, List.set_cons_zero, List.set_cons_succ]
              refine wpList_valS (v := ?_) (by kernel_rfl) ?_ ?_
              rotate_left 1
              · (go_simp; try with_reducible rfl)
              try simp only [Act.put, List.setIfInBounds_toArray, List.set_cons_zero, List.set_cons_succ]
              refine wpList_valG (by kernel_rfl) (ex_sliceA (.tmp 34) (.tmp 35) rfl (some ⟨b2, o2, none⟩) HZ.out.1 j cap3 (m + 1) rfl rfl (by have := HZ.out.2; omega)) ?_
              try simp only [Act.put, List.setIfInBounds_toArray, List.set_cons_zero, List.set_cons_succ]
              refine wpList_valG (by kernel_rfl) (ex_append (.tmp 33) (.tmp 36) 31 31 rfl rfl rfl r1) ?_
              try simp only [Act.put, List.setIfInBounds_toArray, List.set_cons_zero, List.set_cons_succ]
              refine wpList_valS (v := ?_) (by kernel_rfl) ?_ ?_
              rotate_left 1
              · (go_simp; try with_reducible rfl)
              try simp only [Act.put, List.setIfInBounds_toArray, List.set_cons_zero, List.set_cons_succ]
              refine wpList_nil ?_
              clear r1
              go_upto_region 10 with fail
              refine wp_region_lit ?_
              refine wpList_valS (v := ?_) (by kernel_rfl) ?_ ?_
              rotate_left 1
              · (go_simp; try with_reducible rfl)
              try simp only [Act.put, List.setIfInBounds_toArray, List.set_cons_zero, List.set_cons_succ]
              refine wpList_valS (v := ?_) (by kernel_rfl) ?_ ?_
              rotate_left 1
              · (go_simp; try with_reducible rfl)
              try simp only [Act.put, List.setIfInBounds_toArray, List.set_cons_zero, List.set_cons_succ]
              refine wpList_valS (v := ?_) (by kernel_rfl) ?_ ?_
              rotate_left 1
              · (go_simp; try with_reducible rfl)
              try simp only [Act.put, List.setIfInBounds_toArray, List.set_cons_zero, List.set_cons_succ]
              refine wpList_valG (by kernel_rfl) (ex_index 31 51 (.tmp 39) (.tmp 40) rfl b o j n cap 34 rfl rfl tEntries szEntry HLT.out) ?_
              try simp only [Act.put, List.setIfInBounds_toArray, List.set_cons_zero, List.set_cons_succ]
              refine wpList_valG (by kernel_rfl) (ex_load 51 (.tmp 41) rfl b (o + j * 34) 34 (ev (es j)) rfl Try.underlying51 rfl szEntry A1.out) ?_
              try simp only [Act.put, List.setIfInBounds_toArray, List.set_cons_zero, List.set_cons_succ]
              refine wpList_valG (by kernel_rfl) (ex_bslice 31 51 (.tmp 42) rfl 34 (ev (es j)) rfl tEntries zEntry (by decide) (by decide)) ?_
              try simp only [Act.put, List.setIfInBounds_toArray, List.set_cons_zero, List.set_cons_succ]
              refine wpList_valG (by kernel_rfl) (ex_append (.tmp 38) (.tmp 43) 31 31 rfl rfl rfl r2) ?_
              try simp only [Act.put, List.setIfInBounds_toArray, List.set_cons_zero, List.set_cons_succ]
              refine wpList_valS (v := ?_) (by kernel_rfl) ?_ ?_
              rotate_left 1
              · (go_simp; try with_reducible rfl)
              try simp only [Act.put, List.setIfInBounds_toArray, List.set_cons_zero, List.set_cons_succ]
              refine wpList_nil ?_
              clear r2
              go_upto_region 11 with fail
              refine wp_region_lit ?_
              refine wpList_valS (v := ?_) (by kernel_rfl) ?_ ?_
              rotate_left 1
              · (go_simp; try with_reducible rfl)
              try simp only [Act.put, List.setIfInBounds_toArray, List.set_cons_zero, List.set_cons_succ]
              refine wpList_valS (v := ?_) (by kernel_rfl) ?_ ?_
              rotate_left 1
              · (go_simp; try with_reducible rfl)
              try simp only [Act.put, List.setIfInBounds_toArray, List.set_cons_zero, List.set_cons_succ]
              refine wpList_valS (v := ?_) (by kernel_rfl) ?_ ?_
              rotate_left 1
              · (go_simp; try with_reducible rfl)
              try simp only [Act.put, List.setIfInBounds_toArray, List.set_cons_zero, List.set_cons_succ]
              refine wpList_valG (by kernel_rfl) (ex_sliceB (.tmp 46) (.tmp 47) rfl (some ⟨b2, o2, none⟩) j cap3 (m + 1) rfl rfl (by omega)) ?_
              try simp only [Act.put, List.setIfInBounds_toArray, List.set_cons_zero, List.set_cons_succ]
              refine wpList_valG (by kernel_rfl) (ex_append (.tmp 45) (.tmp 48) 31 31 rfl rfl rfl r3) ?_
              try simp only [Act.put, List.setIfInBounds_toArray, List.set_cons_zero, List.set_cons_succ]
              refine wpList_valS (v := ?_) (by kernel_rfl) ?_ ?_
              rotate_left 1
              · (go_simp; try with_reducible rfl)
              try simp only [Act.put, List.setIfInBounds_toArray, List.set_cons_zero, List.set_cons_succ]
              refine wpList_nil ?_
              clear r3
              go_wp2
              go_roundw
              case rel => exact ⟨j + 1, _, _, HLT.out, by go_num, rfl, S3'⟩
              case measure => simp [intOf]; have := HLT.out; omega
    · have ej : n = j := by omega
      subst ej
      have yj : (n : Int) ≤ (n : Int) := by omega
      clear hlt
      go_wp2
      go_ret
      exact ⟨_, fs, rfl, owns_row hS.out.own, hS.out.perm, hS.out.sort, hS.out.keep⟩
end Go.Proofs.Ytiajfhoiedkaaaa
