import Derived.Test.YtekeaoolodmdaaaHHm
import Derived.Deep.Cut
/- Plain regions by hand; a slice's first elements. -/
namespace Go.Proofs.Ytekeaoolodmdaaa
open Go.RowKit Classical
section
variable {P : Program}
theorem wpList_valG {ops : Array Oper} {rest : List Oper} {o : Oper} {a : Act} {w : World} {Q : Exit → Act → World → Prop} (hw : Region.wanted o (yielded ops a.tmps) = true) {v : Value} {w' : World} (hr : (execOp a.eval o).run P w = .ok (.value v) w')
    (h : wpList P ops Q rest (a.put o.dst v) w') : wpList P ops Q (o :: rest) a w :=
  wpList_step fun K hK => by rw [if_pos hw]; unfold Oper.wp; rw [hr]; exact hK _ _ h
theorem wpList_valS {ops : Array Oper} {rest : List Oper} {o : Oper} {a : Act} {w : World} {Q : Exit → Act → World → Prop} {v : Value} (hw : Region.wanted o (yielded ops a.tmps) = true) (hr : (execOp a.eval o).run P w = .ok (.value v) w)
    (h : wpList P ops Q rest (a.put o.dst v) w) : wpList P ops Q (o :: rest) a w := wpList_valG hw hr h
theorem wpList_unitG {ops : Array Oper} {rest : List Oper} {o : Oper} {a : Act} {w : World} {Q : Exit → Act → World → Prop} (hw : Region.wanted o (yielded ops a.tmps) = true) {w' : World} (hr : (execOp a.eval o).run P w = .ok .skip w')
    (h : wpList P ops Q rest (a.put o.dst undef) w') : wpList P ops Q (o :: rest) a w :=
  wpList_step fun K hK => by rw [if_pos hw]; unfold Oper.wp; rw [hr]; exact hK _ _ h
theorem wpList_skipG {ops : Array Oper} {rest : List Oper} {o : Oper} {a : Act} {w : World} {Q : Exit → Act → World → Prop} (hw : Region.wanted o (yielded ops a.tmps) = false)
    (h : wpList P ops Q rest (a.put o.dst undef) w) : wpList P ops Q (o :: rest) a w :=
  wpList_step fun K hK => by rw [if_neg (by rw [hw]; decide)]; exact hK _ _ h
theorem wpList_callG {ops : Array Oper} {rest : List Oper} {o : Oper} {a : Act} {w : World} {Q : Exit → Act → World → Prop} (hw : Region.wanted o (yielded ops a.tmps) = true)
    (h : ∀ K : Act → World → Prop, (∀ a w, wpList P ops Q rest a w → K a w) → o.wp P a w K Q) : wpList P ops Q (o :: rest) a w :=
  wpList_step fun K hK => by rw [if_pos hw]; exact h K hK
end
/- x[:k] of a slice of whatever elements -/
def adz (ad : Option Addr) (c : Nat) : Option Addr := if c = 0 then ad else ad.map (·.add 0)
theorem ex_sliceT {o : Oper} {a : Act} {w : World} {t : TypeId} (hu : Try.prog.underlying t = some (.slice (Try.prog.elem t))) {m : Nat} (hz : ∀ w, (sizeOf (Try.prog.elem t)).run Try.prog w = .ok m w) (x y : Operand) (ho : o.op = .slice t x none (some y) none) (ad : Option Addr) (n c k : Nat) (hx : a.eval x = .slice ad n c) (hy : a.eval y = .int .i64 (k : Int)) (hk : k ≤ c) :
    (execOp a.eval o).run Try.prog w = .ok (.value (.slice (adz ad c) k c)) w := by
  have hr : (Instr.sliceAt t (.slice ad n c) none (some (.int .i64 (k : Int))) none).run Try.prog w = .ok (.slice (adz ad c) k c) w := by
    rw [run_sliceAt_slice (h := hu), run_slice_h (ht := hu) (h0 := by omega) (h2 := by omega), hz]
    unfold adz
    by_cases h0 : c = 0
    · simp [Result.andThen, sliced, h0]
    · simp [Result.andThen, sliced, h0]
  unfold execOp
  simp only [ho, hx, hy, Option.map_none, Option.map_some, Sem.run_bind, hr, Result.andThen_ok]
  rfl
theorem sl_parts : Try.prog.underlying 22 = some (.slice (Try.prog.elem 22)) := by kernel_rfl
theorem sz_parts (w : World) : (sizeOf (Try.prog.elem 22)).run Try.prog w = .ok 3 w := by kernel_rfl
theorem sl_strs : Try.prog.underlying 35 = some (.slice (Try.prog.elem 35)) := by kernel_rfl
theorem sz_strs (w : World) : (sizeOf (Try.prog.elem 35)).run Try.prog w = .ok 1 w := by kernel_rfl
theorem RowG.take0 {α : Type} {m : Nat} {g : α → Nat → Value} {d : α} {w : World} {ad : Option Addr} {n cap : Nat} {l : List α} (h : RowG m g d w (.slice ad n cap) l) {k : Nat} (hk : k ≤ l.length) : RowG m g d w (.slice (adz ad cap) k cap) (l.take k) := by
  have h2 := h.take hk
  by_cases c : k = 0
  · subst c
    unfold RowG
    rw [List.take_zero]
    exact Or.inl ⟨_, _, rfl, rfl⟩
  · obtain ⟨ad', cap', e, hc⟩ := RowG.cells h
    cases e
    obtain ⟨hcap, b, o, rfl, _⟩ := hc 0 (by omega)
    unfold adz
    rw [if_neg (by omega)]
    exact h2
theorem RowG.cap_le {α : Type} {m : Nat} {g : α → Nat → Value} {d : α} {w : World} {ad : Option Addr} {n cap : Nat} {l : List α} (h : RowG m g d w (.slice ad n cap) l) {k : Nat} (hk : k ≤ l.length) : k ≤ cap := by
  by_cases c : k = 0
  · omega
  · obtain ⟨ad', cap', e, hc⟩ := RowG.cells h
    cases e
    have := (hc 0 (by omega)).1
    omega
end Go.Proofs.Ytekeaoolodmdaaa
/- A beginning of a right list is right, with the same texts. -/
namespace Go.Proofs.Ytekeaoolodmdaaa
set_option maxRecDepth 100000
open Go.RowKit
theorem take_getD (l : List Pt) (k i : Nat) (h : i < k) : (l.take k).getD i zp = l.getD i zp := by
  rw [List.getD_eq_getElem?_getD, List.getD_eq_getElem?_getD, List.getElem?_take, if_pos h]
theorem al_take (l : List Pt) (k : Nat) : ∀ (f i : Nat), i < k → al (l.take k) f i = al l f i := by
  intro f
  induction f with
  | zero =>
    intro i hi
    unfold al
    rw [take_getD l k i hi]
  | succ f ih =>
    intro i hi
    by_cases hf : fm (l.getD i zp) i = true
    · by_cases hd : (l.getD i zp).d = true
      · obtain ⟨h0, h1, h2⟩ := fm_delta hf hd
        have e1 := al_delta (l := l.take k) (k := f) (at_ := i) (by rw [take_getD l k i hi]; exact hf) (by rw [take_getD l k i hi]; exact hd) []
        have e2 := al_delta (l := l) (k := f) (at_ := i) hf hd []
        rw [pre_nil (al_err _ _ _)] at e1 e2
        rw [e1, e2, take_getD l k i hi, ih _ (by omega)]
      · have hd' : (l.getD i zp).d = false := by simpa using hd
        rw [al_plain hf hd', al_plain (by rw [take_getD l k i hi]; exact hf) (by rw [take_getD l k i hi]; exact hd')]
    · have hf' : fm (l.getD i zp) i = false := by simpa using hf
      rw [al_wrong hf', al_wrong (by rw [take_getD l k i hi]; exact hf')]
theorem txq_bad {l : List Pt} {i : Nat} (hd : (l.getD i zp).d = true) (hb : ¬ (l.getD i zp).b.toNat < i) : txq l i = ([], 2) := by rw [txq, if_pos hd, dif_neg hb]
theorem txq_take (l : List Pt) (k : Nat) : ∀ i, i < k → txq (l.take k) i = txq l i := by
  intro i
  induction i using Nat.strongRecOn with
  | _ i ih =>
    intro hi
    by_cases hd : (l.getD i zp).d = true
    · by_cases hb : (l.getD i zp).b.toNat < i
      · rw [txq_delta hd hb, txq_delta (by rw [take_getD l k i hi]; exact hd) (by rw [take_getD l k i hi]; exact hb), take_getD l k i hi, ih _ hb (by omega)]
      · rw [txq_bad hd hb, txq_bad (by rw [take_getD l k i hi]; exact hd) (by rw [take_getD l k i hi]; exact hb)]
    · have hd' : (l.getD i zp).d = false := by simpa using hd
      rw [txq_plain hd' [], txq_plain (by rw [take_getD l k i hi]; exact hd') [], take_getD l k i hi]
theorem textR_take {l : List Pt} {k i : Nat} (hl : l.length ≤ 200) (hk : k ≤ l.length) (hi : i < k) : textR (l.take k) (i : Int) = textR l (i : Int) := by
  have hkl : (l.take k).length = k := by rw [List.length_take]; omega
  have e : wayR (l.take k) (i : Int) = wayR l (i : Int) := by
    unfold wayR
    rw [hkl, if_neg (by omega), if_neg (by omega), Int.toNat_natCast, al_take l k 5 i hi]
  unfold textR
  rw [e, Int.toNat_natCast, txq_take l k i hi]
theorem allT_len {l : List Pt} (h : (allT l).2 = 0) : l.length ≤ 200 ∧ (allT l).1.length = l.length := by
  unfold allT at h
  obtain ⟨h1, h2⟩ := allR_ok h
  refine ⟨?_, ?_⟩
  · by_cases c : l.length ≤ 200
    · exact c
    · exfalso
      have h3 := h2 0 (by omega)
      unfold textR wayR at h3
      rw [if_pos (Or.inl (by omega))] at h3
      simp at h3
  · unfold allT
    rw [h1]; simp
theorem allT_take {l : List Pt} (h : (allT l).2 = 0) {k : Nat} (hk : k ≤ l.length) : allT (l.take k) = ((allT l).1.take k, 0) := by
  have hl := (allT_len h).1
  have hkl : (l.take k).length = k := by rw [List.length_take]; omega
  unfold allT at h ⊢
  obtain ⟨h1, h2⟩ := allR_ok h
  rw [hkl, allR_all, h1]
  · congr 1
    rw [← List.map_take, List.take_range, Nat.min_eq_left hk]
    apply List.map_congr_left
    intro i hi
    rw [List.mem_range] at hi
    rw [textR_take hl hk hi]
  · intro i hi
    rw [textR_take hl hk hi]
    exact h2 i (by omega)
set_option maxHeartbeats 2000000 in
theorem chainfront_any {l : List Pt} {v : Value} {w : World} (c : Nat) (hc : c < 256) (hv : RowP w v l) (ht : ∀ x ∈ l, x.t.length ≤ 140737488355328) (hs : l.length ≤ 9223372036854775807) :
    Calls Try.prog 7 #[v, .int .u8 (c : Int)] w fun e w' => e = .returned (.bool true) ∧ Below w.heap.size w w' := by
  have CA : Hid (∀ W, _) := Lib.hid (fun W => alive9_any W)
  have CG : Hid (∀ W, RowP W v l → _) := Lib.hid (fun W h => great9_any (w := W) h ht hs)
  have HV := Lib.hid hv
  by_cases hg : greatP l = true
  · rw [hg] at CG
    clear hg ht hs hv
    go_enter Try.func7, Try.ntmps7
    go_wp2_with fail
    refine (CA.out _).mono ?_
    rintro e w1 ⟨rfl, B1⟩
    have L1 := Lib.hid B1
    have R1 := Lib.hid (HV.out.below B1)
    clear B1
    go_wp2_with fail
    refine (CG.out _ R1.out).mono ?_
    rintro e w2 ⟨rfl, B2⟩
    have L2 := Lib.hid (L1.out.trans (B2.mono L1.out.size))
    clear B2
    go_wp2_with fail
    refine (CA.out _).mono ?_
    rintro e w3 ⟨rfl, B3⟩
    have L3 := Lib.hid (L2.out.trans (B3.mono L2.out.size))
    clear B3
    go_wp2
    go_ret
    exact ⟨rfl, L3.out⟩
  · have hg' : greatP l = false := by simpa using hg
    rw [hg'] at CG
    obtain ⟨hl, htx⟩ := greatP_no hg'
    have CB : Hid (∀ W, RowP W v l → _) := Lib.hid (fun W h => all_any9 (w := W) h (by omega) (fun x hx => by have := htx x hx; omega))
    by_cases hz : (allT l).2 = 0
    · rw [hz] at CB
      obtain ⟨n, hn⟩ : ∃ n, n = l.length := ⟨_, rfl⟩
      obtain ⟨L, hL⟩ : ∃ L, L = (allT l).1 := ⟨_, rfl⟩
      obtain ⟨K, hK⟩ : ∃ K, K = c % (n + 1) := ⟨_, rfl⟩
      have hKn : K ≤ n := by have := Nat.mod_lt c (show 0 < n + 1 by omega); omega
      have hLn : L.length = n := by rw [hL, hn]; exact (allT_len hz).2
      have hLT : allT (l.take K) = (L.take K, 0) := by rw [hL]; exact allT_take hz (by omega)
      have hlk : (l.take K).length = K := by rw [List.length_take]; omega
      have CC : Hid (∀ W u, RowP W u (l.take K) → Calls Try.prog 16 #[u] W fun e w' => ∃ x, e = .returned (.tuple #[x, .int .i64 0]) ∧ OwnS w' W.heap.size x (L.take K) ∧ Below W.heap.size W w') := fun W u h => by
        have := all_any9 h (by rw [hlk]; omega) (fun x hx => by have := htx x (List.mem_of_mem_take hx); omega)
        rw [hLT] at this
        exact this
      have CS : Hid (∀ W u1 u2, RowS W u1 (L.take K) → RowS W u2 (L.take K) → _) := Lib.hid (fun W u1 u2 h1 h2 => sametexts9_any (w := W) h1 h2 (by rw [List.length_take]; omega))
      rw [← hL] at CB
      obtain ⟨ad, cap, hvs⟩ := RowG.len hv
      rw [← hn] at hvs
      subst hvs
      have m1 : (n : Int) + 1 ≠ 0 := by omega
      have m2 : ((c : Int)).tmod ((n : Int) + 1) = (K : Int) := by
        rw [Int.tmod_eq_emod_of_nonneg (by omega), hK]
        simp
      have w0 : IntKind.i64.wrap (c : Int) = (c : Int) := IntWalk.i64_in _ (by omega)
      have w1' : IntKind.i64.wrap ((n : Int) + 1) = (n : Int) + 1 := IntWalk.i64_in _ (by omega)
      have w2' : IntKind.i64.wrap (K : Int) = (K : Int) := IntWalk.i64_in _ (by omega)
      have k0 : (0 : Int) ≤ (K : Int) := by omega
      have k1 : (K : Int) ≤ (n : Int) := by omega
      have M := Lib.hid (And.intro m1 (And.intro m2 (And.intro w0 (And.intro w1' (And.intro w2' (And.intro k0 k1))))))
      have HKN := Lib.hid hKn
      have HLN := Lib.hid hLn
      have HN := Lib.hid hn
      clear hg' hl htx hz hL hK hLn hLT hlk ht hs hv hg m1 m2 w0 w1' w2' k0 k1 hKn hc hn
      go_enter Try.func7, Try.ntmps7
      go_wp2_with fail
      refine (CA.out _).mono ?_
      rintro e w1 ⟨rfl, B1⟩
      have L1 := Lib.hid B1
      have R1 := Lib.hid (HV.out.below B1)
      clear B1 HV
      go_wp2_with fail
      refine (CG.out _ R1.out).mono ?_
      rintro e w2 ⟨rfl, B2⟩
      have L2 := Lib.hid (L1.out.trans (B2.mono L1.out.size))
      have R2 := Lib.hid (R1.out.below B2)
      clear B2 CG R1
      go_wp2_with fail
      refine (CB.out _ R2.out).mono ?_
      rintro e w3 ⟨u, rfl, O3, B3⟩
      have L3 := Lib.hid (L2.out.trans (B3.mono L2.out.size))
      have R3 := Lib.hid (R2.out.below B3)
      obtain ⟨ad2, nu, cap2, hnu, rfl⟩ : ∃ ad2 nu cap2, nu = L.length ∧ u = .slice ad2 nu cap2 := by
        obtain ⟨x1, x2, x3⟩ := RowG.len O3.row
        exact ⟨_, _, _, rfl, x3⟩
      rw [HLN.out] at hnu
      subst hnu
      have S3 : Hid (RowS w3 (.slice ad2 nu cap2) L) := O3.row
      clear B3 O3 CB R2
      go_upto_region 8 with fail
      obtain ⟨m1, m2, w0, w1', w2', k0, k1⟩ := M.out
      clear M
      refine wp_region_lit ?_
      refine wpList_valS (v := ?_) (by kernel_rfl) ?_ ?_
      rotate_left 1
      · (go_simp; try with_reducible rfl)
      try simp only [Act.put, List.setIfInBounds_toArray, List.set_cons_zero, List.set_cons_succ]
      refine wpList_valS (v := ?_) (by kernel_rfl) ?_ ?_
      rotate_left 1
      · (go_simp; try with_reducible rfl)
      try simp only [Act.put, List.setIfInBounds_toArray, List.set_cons_zero, List.set_cons_succ]
      refine wpList_valS (v := ?_) (by kernel_rfl) ?_ ?_
      rotate_left 1
      · (go_simp; try with_reducible rfl)
      try simp only [Act.put, List.setIfInBounds_toArray, List.set_cons_zero, List.set_cons_succ]
      refine wpList_valS (v := ?_) (by kernel_rfl) ?_ ?_
      rotate_left 1
      · (go_simp; try with_reducible rfl)
      try simp only [Act.put, List.setIfInBounds_toArray, List.set_cons_zero, List.set_cons_succ]
      refine wpList_valS (v := ?_) (by kernel_rfl) ?_ ?_
      rotate_left 1
      · (go_simp; try with_reducible rfl)
      try simp only [Act.put, List.setIfInBounds_toArray, List.set_cons_zero, List.set_cons_succ]
      refine wpList_valS (v := ?_) (by kernel_rfl) ?_ ?_
      rotate_left 1
      · (go_simp; try with_reducible rfl)
      try simp only [Act.put, List.setIfInBounds_toArray, List.set_cons_zero, List.set_cons_succ]
      refine wpList_valS (v := ?_) (by kernel_rfl) ?_ ?_
      rotate_left 1
      · (go_simp; try with_reducible rfl)
      try simp only [Act.put, List.setIfInBounds_toArray, List.set_cons_zero, List.set_cons_succ]
      refine wpList_nil ?_
      go_upto_region 9 with fail
      have kc := RowG.cap_le R3.out (k := K) (by rw [← HN.out]; exact HKN.out)
      have RT := Lib.hid (RowG.take0 R3.out (k := K) (by rw [← HN.out]; exact HKN.out))
      refine wp_region_lit ?_
      refine wpList_valS (v := ?_) (by kernel_rfl) ?_ ?_
      rotate_left 1
      · (go_simp; try with_reducible rfl)
      try simp only [Act.put, List.setIfInBounds_toArray, List.set_cons_zero, List.set_cons_succ]
      refine wpList_valS (v := ?_) (by kernel_rfl) ?_ ?_
      rotate_left 1
      · (go_simp; try with_reducible rfl)
      try simp only [Act.put, List.setIfInBounds_toArray, List.set_cons_zero, List.set_cons_succ]
      refine wpList_valG (by kernel_rfl) (ex_sliceT sl_parts sz_parts (.tmp 35) (.tmp 36) rfl ad nu cap K rfl rfl kc) ?_
      try simp only [Act.put, List.setIfInBounds_toArray, List.set_cons_zero, List.set_cons_succ]
      refine wpList_callG (by kernel_rfl) fun K hK => ?_
      go_simp
      refine (CC.out _ _ RT.out).mono ?_
      rintro e w4 ⟨x, rfl, O4, B4⟩
      refine hK _ _ ?_
      clear hK K
      try simp only [Act.put, List.setIfInBounds_toArray, List.set_cons_zero, List.set_cons_succ]
      have L4 := Lib.hid (L3.out.trans (B4.mono L3.out.size))
      have S4 := Lib.hid (S3.out.below B4)
      have X4 : Hid (RowS w4 x (L.take K)) := O4.row
      clear O4 B4 CC R3 S3 RT
      refine wpList_valS (v := ?_) (by kernel_rfl) ?_ ?_
      rotate_left 1
      · (go_simp; try with_reducible rfl)
      try simp only [Act.put, List.setIfInBounds_toArray, List.set_cons_zero, List.set_cons_succ]
      refine wpList_valS (v := ?_) (by kernel_rfl) ?_ ?_
      rotate_left 1
      · (go_simp; try with_reducible rfl)
      try simp only [Act.put, List.setIfInBounds_toArray, List.set_cons_zero, List.set_cons_succ]
      refine wpList_valS (v := ?_) (by kernel_rfl) ?_ ?_
      rotate_left 1
      · (go_simp; try with_reducible rfl)
      try simp only [Act.put, List.setIfInBounds_toArray, List.set_cons_zero, List.set_cons_succ]
      refine wpList_valS (v := ?_) (by kernel_rfl) ?_ ?_
      rotate_left 1
      · (go_simp; try with_reducible rfl)
      try simp only [Act.put, List.setIfInBounds_toArray, List.set_cons_zero, List.set_cons_succ]
      refine wpList_valS (v := ?_) (by kernel_rfl) ?_ ?_
      rotate_left 1
      · (go_simp; try with_reducible rfl)
      try simp only [Act.put, List.setIfInBounds_toArray, List.set_cons_zero, List.set_cons_succ]
      refine wpList_nil ?_
      go_upto_region 10 with fail
      have kc2 := RowG.cap_le S4.out (k := K) (by rw [HLN.out]; exact HKN.out)
      refine wp_region_lit ?_
      refine wpList_callG (by kernel_rfl) fun K hK => ?_
      go_simp
      refine (CA.out _).mono ?_
      rintro e w5 ⟨rfl, B5⟩
      refine hK _ _ ?_
      clear hK K
      try simp only [Act.put, List.setIfInBounds_toArray, List.set_cons_zero, List.set_cons_succ]
      have L5 := Lib.hid (L4.out.trans (B5.mono L4.out.size))
      have X5 := Lib.hid (X4.out.below B5)
      have S5 : Hid (RowS w5 (.slice (adz ad2 cap2) K cap2) (L.take K)) := (RowG.take0 (S4.out.below B5) (k := K) (by rw [HLN.out]; exact HKN.out))
      clear B5 S4 X4
      refine wpList_valS (v := ?_) (by kernel_rfl) ?_ ?_
      rotate_left 1
      · (go_simp; try with_reducible rfl)
      try simp only [Act.put, List.setIfInBounds_toArray, List.set_cons_zero, List.set_cons_succ]
      refine wpList_valS (v := ?_) (by kernel_rfl) ?_ ?_
      rotate_left 1
      · (go_simp; try with_reducible rfl)
      try simp only [Act.put, List.setIfInBounds_toArray, List.set_cons_zero, List.set_cons_succ]
      refine wpList_valS (v := ?_) (by kernel_rfl) ?_ ?_
      rotate_left 1
      · (go_simp; try with_reducible rfl)
      try simp only [Act.put, List.setIfInBounds_toArray, List.set_cons_zero, List.set_cons_succ]
      refine wpList_valS (v := ?_) (by kernel_rfl) ?_ ?_
      rotate_left 1
      · (go_simp; try with_reducible rfl)
      try simp only [Act.put, List.setIfInBounds_toArray, List.set_cons_zero, List.set_cons_succ]
      refine wpList_valS (v := ?_) (by kernel_rfl) ?_ ?_
      rotate_left 1
      · (go_simp; try with_reducible rfl)
      try simp only [Act.put, List.setIfInBounds_toArray, List.set_cons_zero, List.set_cons_succ]
      refine wpList_valS (v := ?_) (by kernel_rfl) ?_ ?_
      rotate_left 1
      · (go_simp; try with_reducible rfl)
      try simp only [Act.put, List.setIfInBounds_toArray, List.set_cons_zero, List.set_cons_succ]
      refine wpList_valS (v := ?_) (by kernel_rfl) ?_ ?_
      rotate_left 1
      · (go_simp; try with_reducible rfl)
      try simp only [Act.put, List.setIfInBounds_toArray, List.set_cons_zero, List.set_cons_succ]
      refine wpList_valS (v := ?_) (by kernel_rfl) ?_ ?_
      rotate_left 1
      · (go_simp; try with_reducible rfl)
      try simp only [Act.put, List.setIfInBounds_toArray, List.set_cons_zero, List.set_cons_succ]
      refine wpList_valS (v := ?_) (by kernel_rfl) ?_ ?_
      rotate_left 1
      · (go_simp; try with_reducible rfl)
      try simp only [Act.put, List.setIfInBounds_toArray, List.set_cons_zero, List.set_cons_succ]
      refine wpList_valS (v := ?_) (by kernel_rfl) ?_ ?_
      rotate_left 1
      · (go_simp; try with_reducible rfl)
      try simp only [Act.put, List.setIfInBounds_toArray, List.set_cons_zero, List.set_cons_succ]
      refine wpList_valS (v := ?_) (by kernel_rfl) ?_ ?_
      rotate_left 1
      · (go_simp; try with_reducible rfl)
      try simp only [Act.put, List.setIfInBounds_toArray, List.set_cons_zero, List.set_cons_succ]
      refine wpList_valS (v := ?_) (by kernel_rfl) ?_ ?_
      rotate_left 1
      · (go_simp; try with_reducible rfl)
      try simp only [Act.put, List.setIfInBounds_toArray, List.set_cons_zero, List.set_cons_succ]
      refine wpList_valS (v := ?_) (by kernel_rfl) ?_ ?_
      rotate_left 1
      · (go_simp; try with_reducible rfl)
      try simp only [Act.put, List.setIfInBounds_toArray, List.set_cons_zero, List.set_cons_succ]
      refine wpList_valS (v := ?_) (by kernel_rfl) ?_ ?_
      rotate_left 1
      · (go_simp; try with_reducible rfl)
      try simp only [Act.put, List.setIfInBounds_toArray, List.set_cons_zero, List.set_cons_succ]
      refine wpList_valS (v := ?_) (by kernel_rfl) ?_ ?_
      rotate_left 1
      · (go_simp; try with_reducible rfl)
      try simp only [Act.put, List.setIfInBounds_toArray, List.set_cons_zero, List.set_cons_succ]
      refine wpList_valG (by kernel_rfl) (ex_sliceT sl_strs sz_strs (.tmp 55) (.tmp 56) rfl ad2 nu cap2 K rfl rfl kc2) ?_
      try simp only [Act.put, List.setIfInBounds_toArray, List.set_cons_zero, List.set_cons_succ]
      refine wpList_callG (by kernel_rfl) fun K hK => ?_
      go_simp
      refine (CS.out _ _ _ X5.out S5.out).mono ?_
      rintro e w6 ⟨rfl, B6⟩
      refine hK _ _ ?_
      clear hK K
      try simp only [Act.put, List.setIfInBounds_toArray, List.set_cons_zero, List.set_cons_succ]
      have L6 := Lib.hid (L5.out.trans (B6.mono L5.out.size))
      clear B6 CS CA
      refine wpList_valS (v := ?_) (by kernel_rfl) ?_ ?_
      rotate_left 1
      · (go_simp; try with_reducible rfl)
      try simp only [Act.put, List.setIfInBounds_toArray, List.set_cons_zero, List.set_cons_succ]
      refine wpList_valS (v := ?_) (by kernel_rfl) ?_ ?_
      rotate_left 1
      · (go_simp; try with_reducible rfl)
      try simp only [Act.put, List.setIfInBounds_toArray, List.set_cons_zero, List.set_cons_succ]
      refine wpList_nil ?_
      go_wp2
      go_ret
      exact ⟨rfl, L6.out⟩
    · obtain ⟨er, her⟩ : ∃ er, er = (allT l).2 := ⟨_, rfl⟩
      have h0 : (allT l).1 = [] := by unfold allT at hz ⊢; exact allR_err hz
      rw [h0, ← her] at CB
      rw [← her] at hz
      clear hg' hl htx her h0 ht hs hv hg hc
      go_enter Try.func7, Try.ntmps7
      go_wp2_with fail
      refine (CA.out _).mono ?_
      rintro e w1 ⟨rfl, B1⟩
      have L1 := Lib.hid B1
      have R1 := Lib.hid (HV.out.below B1)
      clear B1 HV
      go_wp2_with fail
      refine (CG.out _ R1.out).mono ?_
      rintro e w2 ⟨rfl, B2⟩
      have L2 := Lib.hid (L1.out.trans (B2.mono L1.out.size))
      have R2 := Lib.hid (R1.out.below B2)
      clear B2 CG R1
      go_wp2_with fail
      refine (CB.out _ R2.out).mono ?_
      rintro e w3 ⟨u, rfl, O3, B3⟩
      have L3 := Lib.hid (L2.out.trans (B3.mono L2.out.size))
      obtain ⟨ad2, cap2, rfl⟩ := RowG.len O3.row
      clear B3 O3 CB R2
      go_wp2_with fail
      refine (CA.out _).mono ?_
      rintro e w4 ⟨rfl, B4⟩
      have L4 := Lib.hid (L3.out.trans (B4.mono L3.out.size))
      clear B4 CA
      go_wp2
      go_ret
      exact ⟨rfl, L4.out⟩
end Go.Proofs.Ytekeaoolodmdaaa
