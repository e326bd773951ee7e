import Derived.Test.YtmcaapgcplhhmaaW6
import Derived.Test.YtmcaapgcplhhmaaM
import Derived.Laws.StructEq
/- Slices of sketches and of other things; equality of sketches; Near. -/
namespace Go.Proofs.Ytmcaapgcplhhmaa
open Go.RowKit
attribute [local go_sem] run_store_complex
/- a slice of n elements of m cells each, which c tells -/
def Row (w : World) (v : Value) (m : Nat) (c : Nat → Value) (n : Nat) : Prop :=
  (∃ ad cap, v = .slice ad 0 cap ∧ n = 0) ∨ (∃ b o cap, v = .slice (some ⟨b, o, none⟩) n cap ∧ 0 < n ∧ b < w.heap.size ∧ ∀ i, i < n * m → w.cell? ⟨b, o + i, none⟩ = some (c i))
theorem row_addr {w : World} {v : Value} {m : Nat} {c : Nat → Value} {n : Nat} (h : Row w v m c n) : ∃ ad cap, v = .slice ad n cap ∧ (0 < n → ∃ b o, ad = some ⟨b, o, none⟩ ∧ b < w.heap.size ∧ ∀ i, i < n * m → w.cell? ⟨b, o + i, none⟩ = some (c i)) := by
  rcases h with ⟨ad, cap, rfl, rfl⟩ | ⟨b, o, cap, rfl, h0, hb, hc⟩
  · exact ⟨ad, cap, rfl, fun h => absurd h (by omega)⟩
  · exact ⟨_, cap, rfl, fun _ => ⟨b, o, rfl, hb, hc⟩⟩
theorem Row.below {W W' : World} {v : Value} {m : Nat} {c : Nat → Value} {n : Nat} (h : Row W v m c n) (hb : Below W.heap.size W W') : Row W' v m c n := by
  rcases h with h | ⟨b, k, cap, h1, h2, h3, h4⟩
  · exact Or.inl h
  · exact Or.inr ⟨b, k, cap, h1, h2, Nat.lt_of_lt_of_le h3 hb.size, fun i hi => by rw [hb.cell h3]; exact h4 i hi⟩
theorem Row.congr {W : World} {v : Value} {m : Nat} {c d : Nat → Value} {n : Nat} (h : Row W v m c n) (e : ∀ i, i < n * m → c i = d i) : Row W v m d n := by
  rcases h with h | ⟨b, k, cap, h1, h2, h3, h4⟩
  · exact Or.inl h
  · exact Or.inr ⟨b, k, cap, h1, h2, h3, fun i hi => by rw [h4 i hi, e i hi]⟩
/- the cells of sketches, of references -/
def skc (gs : Nat → Nat → Int) (i : Nat) : Value := sv (gs (i / 4)) (i % 4)
def whc (gs : Nat → Nat → Int) (i : Nat) : Value := wv (gs (i / 8)) (i % 8)
def inc (p : Nat → Nat) (i : Nat) : Value := .int .i64 (p i : Int)
def boc (p : Nat → Bool) (i : Nat) : Value := .bool (p i)
theorem skc_at (gs : Nat → Nat → Int) (k j : Nat) (hj : j < 4) : skc gs (k * 4 + j) = sv (gs k) j := by
  unfold skc
  rw [show (k * 4 + j) / 4 = k by omega, show (k * 4 + j) % 4 = j by omega]
theorem whc_at (gs : Nat → Nat → Int) (k j : Nat) (hj : j < 8) : whc gs (k * 8 + j) = wv (gs k) j := by
  unfold whc
  rw [show (k * 8 + j) / 8 = k by omega, show (k * 8 + j) % 8 = j by omega]
theorem ty26 : Try.prog.underlying 26 = some (.complex .f64) := by kernel_rfl
theorem sz26 : (Try.prog.info? 26).map (·.size) = some 1 := by kernel_rfl
theorem floatEq_FB (a b : Int) (ha : a.natAbs < 9007199254740992) (hb : b.natAbs < 9007199254740992) : Op.floatEq .f64 (FB a) (FB b) = decide (a = b) := by
  have h := eq_FB a b ha hb
  exact h
theorem run_eq_cx (w : World) (d : Nat) (a b c e : Nat) : (Op.equalIn (d + 1) 26 (.complex .f64 a b) (.complex .f64 c e)).run Try.prog w = .ok (Op.floatEq .f64 a c && Op.floatEq .f64 b e) w := by
  unfold Op.equalIn
  rw [Sem.run_bind, run_underlying ty26 w]
  rfl
theorem run_equal_arr (w : World) (d : Nat) (f h : Nat → Value) (p : Nat → Bool)
    (he : ∀ j, j < 4 → (Op.equalIn (d + 1) 26 (f j) (h j)).run Try.prog w = .ok (p j) w) :
    (Op.equalIn (d + 2) 28 (.agg (arr 4 f)) (.agg (arr 4 h))).run Try.prog w = .ok ((List.range 4).all p) w := by
  have hs := sz26
  cases hq : Try.prog.info? 26 with
  | none => simp [hq] at hs
  | some i =>
    have hd : i.size = 1 := by simpa [hq] using hs
    have hagg : (isAgg 26).run Try.prog w = .ok false w := by
      unfold isAgg
      rw [Sem.run_bind, run_underlying ty26 w]; rfl
    have hp : ∀ (h : Nat → Value) (j : Nat), j < 4 → (Go.part 26 (arr 4 h) j).run Try.prog w = .ok (h j) w := fun h j hj => by
      unfold Go.part
      rw [Sem.run_bind, hagg]
      simp [arr_get 4 h j hj]
    have hz : (sizeOf 26).run Try.prog w = .ok 1 w := by simp [sizeOf, typeInfo, hq, hd]
    unfold Op.equalIn
    simp only [Sem.run_bind, run_underlying ty28, Result.andThen_ok, hz, Std.Legacy.Range.forIn_eq_forIn_range', Nat.mul_one]
    have key : ∀ l : List Nat, (∀ j, j ∈ l → j < 4) → (forIn l (none, ()) (fun i (_ : Option Bool × Unit) => do
            let a ← Go.part 26 (arr 4 f) i
            let b ← Go.part 26 (arr 4 h) i
            let r ← Op.equalIn (d + 1) 26 a b
            if (!r) = true then pure (ForInStep.done (some false, ())) else pure (ForInStep.yield (none, ())))).run Try.prog w = .ok (if ∀ j, j ∈ l → p j = true then ((none : Option Bool), ()) else (some false, ())) w := by
      intro l
      induction l with
      | nil => intro _; simp
      | cons j l ih =>
        intro hl
        have hj := hl j (by simp)
        simp only [List.forIn_cons, Sem.run_bind, hp f j hj, hp h j hj, Result.andThen_ok, he j hj]
        cases c : p j
        · simp only [Bool.not_false, if_true, Sem.run_pure, Result.andThen_ok]
          rw [if_neg (fun h => by have := h j (by simp); rw [c] at this; cases this)]
        · simp only [Bool.not_true, Bool.false_eq_true, if_false, Sem.run_pure, Result.andThen_ok]
          rw [ih (fun k hk => hl k (by simp [hk]))]
          have e2 : (∀ k, k ∈ j :: l → p k = true) ↔ (∀ k, k ∈ l → p k = true) := by simp [c]
          simp only [e2]
    rw [key _ (fun j hj => by simp [Std.Legacy.Range.size] at hj; omega)]
    have e3 : (∀ j, j ∈ List.range' 0 [:4].size → p j = true) ↔ (∀ i, i < 4 → p i = true) := by
      simp [Std.Legacy.Range.size]
    have e4 : ((List.range 4).all p = true) ↔ (∀ i, i < 4 → p i = true) := by simp [List.all_eq_true]
    simp only [e3, ← e4]
    cases c : (List.range 4).all p <;> simp
theorem run_equal_sk (g h : Nat → Int) (hg : Ok g) (hh : Ok h) (w : World) :
    (Op.equalIn 10000 28 (SV g) (SV h)).run Try.prog w = .ok (decide (far g h = 0)) w := by
  rw [SV_arr, SV_arr, run_equal_arr w 9998 (sv g) (sv h) (fun j => decide (g (2 * j) = h (2 * j)) && decide (g (2 * j + 1) = h (2 * j + 1))) (fun j hj => by
    have l1 := hg (2 * j)
    have l2 := hg (2 * j + 1)
    have l3 := hh (2 * j)
    have l4 := hh (2 * j + 1)
    unfold sv
    rw [run_eq_cx, floatEq_FB _ _ (by omega) (by omega), floatEq_FB _ _ (by omega) (by omega)])]
  congr 1
  apply Bool.eq_iff_iff.2
  rw [List.all_eq_true, decide_eq_true_iff, far_zero]
  constructor
  · intro e i hi
    have := e (i / 2) (List.mem_range.2 (by omega))
    rw [Bool.and_eq_true, decide_eq_true_iff, decide_eq_true_iff] at this
    by_cases c : i % 2 = 0
    · have h1 := this.1
      rw [show 2 * (i / 2) = i by omega] at h1
      exact h1
    · have h1 := this.2
      rw [show 2 * (i / 2) + 1 = i by omega] at h1
      exact h1
  · intro e i hi
    rw [Bool.and_eq_true, decide_eq_true_iff, decide_eq_true_iff]
    have hi4 := List.mem_range.1 hi
    exact ⟨e _ (by omega), e _ (by omega)⟩
theorem eql_sk (g h : Nat → Int) (hg : Ok g) (hh : Ok h) (w : World) : (binOp .eql 28 (SV g) (SV h)).run Try.prog w = .ok (.bool (decide (far g h = 0))) w := by
  have e := run_equal_sk g h hg hh w
  unfold SV at e ⊢
  rw [run_eql_struct, e]; rfl
theorem neq_sk (g h : Nat → Int) (hg : Ok g) (hh : Ok h) (w : World) : (binOp .neq 28 (SV g) (SV h)).run Try.prog w = .ok (.bool (!decide (far g h = 0))) w := by
  have e := run_equal_sk g h hg hh w
  unfold SV at e ⊢
  rw [run_neq_struct, e]; rfl
def fars (g : Nat → Int) (gs : Nat → Nat → Int) (i : Nat) : Nat := far g (gs i)
def every (_ : Nat) : Bool := true
set_option maxHeartbeats 2000000 in
theorem near_any (g : Nat → Int) (gs : Nat → Nat → Int) (v : Value) (len : Nat) (w : World) (hg : Ok g) (hgs : ∀ i, i < len → Ok (gs i)) (hl : len ≤ 1048576) (hR : Row w v 4 (skc gs) len) :
    Calls Try.prog 17 #[SV g, v] w fun e w' => e = .returned (.int .i64 (pos (bst every (fars g gs) len))) ∧ Below w.heap.size w w' := by
  obtain ⟨ad, cap, rfl, ha⟩ := row_addr hR
  clear hR
  have HA := Lib.hid ha
  clear ha
  have HQ := Lib.hid (fun i hi w => eql_sk (gs i) g (hgs i hi) hg w)
  have HF := Lib.hid (fun i hi w => far_any g (gs i) hg (hgs i hi) w)
  have HO := Lib.hid (fun i hi => far_le hg (hgs i hi))
  have HU := Lib.hid (SV_arr g)
  clear hg hgs
  unfold SV
  go_enter Try.func17, Try.ntmps17
  go_wp2
  go_loopw [5, 6, 7, 8, 9, 12] (fun n x _ _ _ i wr => ∃ (k : Nat) (z y : Int), k ≤ len ∧ i = .int .i64 k ∧ n = .int .i64 z ∧ x = .int .i64 y ∧ Hid (z = pos (bst every (fars g gs) k)) ∧ Hid (∀ b, bst every (fars g gs) k = some b → y = fars g gs b) ∧ Hid (∀ i, i < k → fars g gs i ≠ 0) ∧ Hid (Blk wr w.heap.size 28 4 (sv g)) ∧ Hid (Below w.heap.size w wr)) (fun _ _ _ _ _ i _ => len - (intOf i).toNat)
  case atStart => exact ⟨0, -1, 0, by omega, rfl, rfl, rfl, rfl, (fun b hb => by cases hb), (fun i hi => by omega), Blk.new w _ 28 4 _ (sv_arr g), (Below.refl _ _).alloc (Nat.le_refl _) _⟩
  case round =>
    obtain ⟨k, z, y, hk, rfl, rfl, rfl, hZ, hY, hN, hB, hL⟩ := hrel
    by_cases hlt : k < len
    · obtain ⟨b, o, rfl, hb, hc⟩ := HA.out (by omega)
      have HC : Hid (∀ j, j < 4 → wr.cell? ⟨b, o + k * 4 + j, none⟩ = some (sv (gs k) j)) := fun j hj => by
        rw [hL.out.cell hb, Nat.add_assoc, hc (k * 4 + j) (by omega), skc_at gs k j hj]
      clear hc
      have zk : (0 : Int) ≤ (k : Int) := by omega
      have yk : (k : Int) < (len : Int) := by omega
      have c0 : wr.cell? ⟨b, o + k * 4, none⟩ = some (.complex .f64 (FB (gs k 0)) (FB (gs k 1))) := HC.out 0 (by omega)
      have c1 : wr.cell? ⟨b, o + k * 4 + 1, none⟩ = some (.complex .f64 (FB (gs k 2)) (FB (gs k 3))) := HC.out 1 (by omega)
      have c2 : wr.cell? ⟨b, o + k * 4 + 2, none⟩ = some (.complex .f64 (FB (gs k 4)) (FB (gs k 5))) := HC.out 2 (by omega)
      have c3 : wr.cell? ⟨b, o + k * 4 + 3, none⟩ = some (.complex .f64 (FB (gs k 6)) (FB (gs k 7))) := HC.out 3 (by omega)
      go_upto_region 5 with fail
      have H0 := Lib.hid (hB.out.alloc (.cells #[.complex .f64 (FB (gs k 0)) (FB (gs k 1)), .complex .f64 (FB (gs k 2)) (FB (gs k 3)), .complex .f64 (FB (gs k 4)) (FB (gs k 5)), .complex .f64 (FB (gs k 6)) (FB (gs k 7))] 28))
      have H1 := Lib.hid (Blk.new wr _ 28 4 _ (sv_arr (gs k)))
      have H2 := Lib.hid (hL.out.alloc hL.out.size (.cells #[.complex .f64 (FB (gs k 0)) (FB (gs k 1)), .complex .f64 (FB (gs k 2)) (FB (gs k 3)), .complex .f64 (FB (gs k 4)) (FB (gs k 5)), .complex .f64 (FB (gs k 6)) (FB (gs k 7))] 28))
      clear hB hL c0 c1 c2 c3 HC
      generalize wr.alloc (.cells #[.complex .f64 (FB (gs k 0)) (FB (gs k 1)), .complex .f64 (FB (gs k 2)) (FB (gs k 3)), .complex .f64 (FB (gs k 4)) (FB (gs k 5)), .complex .f64 (FB (gs k 6)) (FB (gs k 7))] 28) = w5 at H0 H1 H2 ⊢
      have q := HQ.out k hlt
      rw [SV_arr, SV_arr] at q
      have C := Lib.hid (HF.out k hlt)
      have ho := HO.out k hlt
      by_cases h0 : far (gs k) g = 0
      · rw [decide_eq_true h0] at q
        have HE : Hid (pos (bst every (fars g gs) len) = (k : Int)) := by
          show _ = _
          rw [bst_zero (p := every) (d := fars g gs) rfl (by unfold fars; rw [far_comm]; exact h0) hN.out len hlt]
          rfl
        clear h0 HF HO
        go_wp2_with (first | (refine wpList_load_blk rfl 28 (.tmp 8) rfl wr.heap.size rfl 28 4 (sv (gs k)) H1.out _ ty28 rfl sz28 ?_) | (refine wpList_load_blk rfl 28 (.tmp 2) rfl w.heap.size rfl 28 4 (sv g) H0.out _ ty28 rfl sz28 ?_))
        go_ret
        rw [HE.out]
        exact ⟨rfl, H2.out⟩
      · rw [decide_eq_false h0] at q
        have HN : Hid (∀ i, i < k + 1 → fars g gs i ≠ 0) := fun i hi => by
          by_cases c : i < k
          · exact hN.out i c
          · have e : i = k := by omega
            subst e
            unfold fars
            rw [far_comm]; exact h0
        have hfk : far g (gs k) = fars g gs k := rfl
        rw [hfk] at C ho
        clear h0 HF HO hN
        rw [SV_arr, SV_arr] at C
        go_wp2_with (first | (refine wpList_load_blk rfl 28 (.tmp 8) rfl wr.heap.size rfl 28 4 (sv (gs k)) H1.out _ ty28 rfl sz28 ?_) | (refine wpList_load_blk rfl 28 (.tmp 2) rfl w.heap.size rfl 28 4 (sv g) H0.out _ ty28 rfl sz28 ?_))
        refine (C.out _).mono ?_
        rintro e w6 ⟨rfl, hb6⟩
        have G0 := Lib.hid (H0.out.below hb6 H0.out.lt)
        have G2 := Lib.hid (H2.out.trans (hb6.mono H2.out.size))
        clear H0 H1 H2 hb6 C q
        cases hbk : bst every (fars g gs) k with
        | none =>
          have z0 : z < 0 := by rw [hZ.out, hbk]; decide
          have N1 : Hid (bst every (fars g gs) (k + 1) = some k) := bst_first rfl hbk
          clear hZ hY hbk
          go_wp2
          go_roundw
          case rel => exact ⟨k + 1, k, _, by omega, by go_num, rfl, rfl, by rw [N1.out]; rfl, (fun b hb => by rw [N1.out] at hb; cases hb; rfl), HN.out, G0, G2⟩
          case measure => simp [intOf]; omega
        | some b2 =>
          have z0 : 0 ≤ z := by rw [hZ.out, hbk]; exact Int.natCast_nonneg _
          have hy := hY.out b2 hbk
          by_cases c : fars g gs k < fars g gs b2
          · have N1 : Hid (bst every (fars g gs) (k + 1) = some k) := bst_less rfl hbk c
            have c' : (fars g gs k : Int) < y := by omega
            clear hZ hY hbk c hy
            go_wp2
            go_roundw
            case rel => exact ⟨k + 1, k, _, by omega, by go_num, rfl, rfl, by rw [N1.out]; rfl, (fun b hb => by rw [N1.out] at hb; cases hb; rfl), HN.out, G0, G2⟩
            case measure => simp [intOf]; omega
          · have N1 : Hid (bst every (fars g gs) (k + 1) = some b2) := bst_more hbk (fun _ => c)
            have c' : y ≤ (fars g gs k : Int) := by omega
            have HZ : Hid (z = (b2 : Int)) := by show _ = _; rw [hZ.out, hbk]; rfl
            have HY : Hid (y = fars g gs b2) := hy
            clear hZ hY hbk c hy
            go_wp2
            go_roundw
            case rel => exact ⟨k + 1, z, y, by omega, by go_num, rfl, rfl, by rw [N1.out]; exact HZ.out, (fun b hb => by rw [N1.out] at hb; cases hb; exact HY.out), HN.out, G0, G2⟩
            case measure => simp [intOf]; omega
    · have e : k = len := by omega
      subst e
      have yk : (k : Int) ≤ (k : Int) := by omega
      go_wp2
      go_ret
      rw [hZ.out]
      exact ⟨rfl, hL.out⟩
end Go.Proofs.Ytmcaapgcplhhmaa
