import Derived.Test.YtmcaapgcplhhmaaW14
/- The reference's Order. -/
namespace Go.Proofs.Ytmcaapgcplhhmaa
open Go.RowKit
theorem t42 : Try.prog.underlying 42 = some (.slice 4) := by kernel_rfl
theorem i4 : (Try.prog.info? 4).map (fun i => (i.zero, i.size, i.bytes)) = some (some (.bool false), 1, 1) := by kernel_rfl
theorem made_bool (n : Nat) : madeCells (Value.bool false).cells (n * 1) = arr n (fun _ => .bool false) := by
  unfold madeCells arr
  apply Array.ext
  · simp
  · intro i h1 h2
    simp [Value.cells, Nat.mod_one]
theorem make_bool (w : World) (c : Nat) (hc : c ≤ 100000) :
    (Instr.makeSlice 42 (.int .i64 (c : Int)) (.int .i64 (c : Int))).run Try.prog w = .ok (.slice (some ⟨w.heap.size, 0, none⟩) c c) (w.alloc (.cells (arr c (fun _ => .bool false)) 4)) := by
  obtain ⟨i0, hi, hz0, hz1, hz2⟩ := info_parts i4
  have h := run_make (P := Try.prog) w 42 4 i0 (.bool false) t42 hi hz0 .i64 .i64 c c (by omega) (by omega) (by rw [hz2]; omega) (by omega)
  rw [hz1] at h
  simp only [Int.toNat_natCast] at h
  rw [made_bool] at h
  exact h
theorem pl_pos (D : Nat → Nat → Nat) (len m : Nat) (h : m + 1 < len) : pos (bst (fun i => !(ord D len (m + 1)).contains i) (D (pl D len m)) len) = (pl D len (m + 1) : Int) := by
  obtain ⟨b, hb⟩ := bst_there (p := fun i => !(ord D len (m + 1)).contains i) (d := D (pl D len m)) (pl_lt D len (m + 1) h) (by
    have := ((mem_lft D len (m + 1) _).1 (pl_mem D len (m + 1) h)).2
    simpa using this)
  rw [pl_succ, hb]
  rfl
def tak (D : Nat → Nat → Nat) (len n i : Nat) : Bool := (ord D len n).contains i
theorem tak_next (D : Nat → Nat → Nat) (len n i : Nat) : (if i = pl D len n then Value.bool true else Value.bool (tak D len n i)) = .bool (tak D len (n + 1) i) := by
  unfold tak
  rw [ord_succ]
  by_cases c : i = pl D len n
  · subst c
    rw [if_pos rfl]
    simp
  · rw [if_neg c]
    simp [c]
set_option maxHeartbeats 4000000 in
theorem rorder_any (gs : Nat → Nat → Int) (v : Value) (len : Nat) (w : World) (hgs : ∀ i, i < len → Ok (gs i)) (hl : len ≤ 100) (hR : Row w v 8 (whc gs) len) :
    Calls Try.prog 21 #[v] w fun e w' => ∃ u, e = .returned u ∧ Row w' u 1 (inc (pl (dist gs) len)) len ∧ Below w.heap.size w w' := by
  have HR := Lib.hid hR
  obtain ⟨ad, cap, rfl, ha⟩ := row_addr hR
  clear hR
  have HA := Lib.hid ha
  clear ha
  have HG := Lib.hid hgs
  clear hgs
  have mk := make_bool w len (by omega)
  obtain ⟨W1, hW1⟩ : ∃ W1, W1 = w.alloc (.cells (arr len (fun _ => .bool false)) 4) := ⟨_, rfl⟩
  have H1 : Hid (Blk W1 w.heap.size 4 len (fun _ => .bool false) ∧ Below w.heap.size w W1) := by
    rw [hW1]
    exact ⟨Blk.new w _ 4 len _ rfl, (Below.refl _ _).alloc (Nat.le_refl _) _⟩
  rw [← hW1] at mk
  clear hW1
  go_enter Try.func21, Try.ntmps21
  go_wp2
  clear mk
  go_loopw [3, 5, 6] (fun out at_ i wr => ∃ (n y : Nat) (vo : Value), n ≤ len ∧ i = .int .i64 n ∧ at_ = .int .i64 (y : Int) ∧ Hid (y = pl (dist gs) len (n - 1)) ∧ vo = out ∧ Hid (wr.ownsRow (w.heap.size + 1) 3 1 vo n (arr (n * 1) (inc (pl (dist gs) len))).toList) ∧ Hid (Blk wr w.heap.size 4 len (boc (tak (dist gs) len n))) ∧ Hid (Below w.heap.size w wr)) (fun _ _ i _ => len - (intOf i).toNat)
  case atStart => exact ⟨0, 0, _, by omega, rfl, rfl, rfl, rfl, by rw [Nat.zero_mul]; exact World.ownsRow_nil _ _ _ _, H1.out.1, H1.out.2⟩
  case round =>
    clear H1
    obtain ⟨n, y, vo, hn, rfl, rfl, hY, rfl, hO, hT, hL⟩ := hrel
    by_cases hlt : n < len
    · have zk : (0 : Int) ≤ (n : Int) := by omega
      have yk : (n : Int) < (len : Int) := by omega
      cases n with
      | zero =>
        obtain ⟨x, hx⟩ : ∃ x, x = y := ⟨_, rfl⟩
        have HX : Hid (x = pl (dist gs) len 0) := by show _ = _; rw [hx, hY.out]
        subst hx
        clear hY HA HR HG
        have hxl : x < len := by rw [HX.out]; exact pl_lt _ _ _ (by omega)
        have zx : (0 : Int) ≤ (x : Int) := by omega
        have yx : (x : Int) < (len : Int) := by omega
        have ct : wr.cell? ⟨w.heap.size, x, none⟩ = some (.bool (tak (dist gs) len 0 x)) := hT.out.cell x hxl
        have cf : wr.frozen? ⟨w.heap.size, x, none⟩ = false := hT.out.frozen x
        go_upto_region 10 with fail
        have O6 : Hid ((wr.setCell ⟨w.heap.size, x, none⟩ (.bool true)).ownsRow (w.heap.size + 1) 3 1 vo 0 (arr (0 * 1) (inc (pl (dist gs) len))).toList) := owns_keep hO.out ((Keep.refl (fun k => k ≠ w.heap.size) wr).setCell (p := ⟨w.heap.size, x, none⟩) (fun h => h rfl) _) (fun g hg h => by have := (hO.out.lt g hg).1; omega)
        have T6 : Hid (Blk (wr.setCell ⟨w.heap.size, x, none⟩ (.bool true)) w.heap.size 4 len (boc (tak (dist gs) len (0 + 1)))) := (hT.out.set x (.bool true)).congr fun i _ => by rw [HX.out]; exact tak_next _ _ _ i
        have L6 : Hid (Below w.heap.size w (wr.setCell ⟨w.heap.size, x, none⟩ (.bool true))) := hL.out.setCell (p := ⟨w.heap.size, x, none⟩) (Nat.le_refl _) _
        clear hO hT hL ct cf
        generalize wr.setCell ⟨w.heap.size, x, none⟩ (.bool true) = w6 at O6 T6 L6 ⊢
        obtain ⟨g1, cap1, w7, hap, hO7, hK7, hat⟩ := app_own t44 i3 rfl (by decide) (by decide) #[.int .i64 (x : Int)] (by rw [HX.out]; show _ = #[inc (pl (dist gs) len) (0 * 1 + 0)]; rw [Nat.mul_one, Nat.add_zero]; rfl) (fun j => rfl) O6.out (by have := T6.out.lt; omega) (by omega)
        have T7 : Hid (Blk w7 w.heap.size 4 len (boc (tak (dist gs) len (0 + 1)))) := hK7.blk (fun h => by have := (O6.out.lt _ h).1; omega) T6.out
        have L7 : Hid (Below w.heap.size w w7) := L6.out.trans ((hK7.mono (fun g hg _ h => by have h1 := (O6.out.lt g h).1; have : g < w.heap.size := hg; omega) : Keep (· < w.heap.size) w6 w7).below L6.out.size)
        have O7 := Lib.hid hO7
        clear hO7 hK7 hat O6 T6 L6
        go_wp2_with (at_builtin; refine wpList_append_run rfl (.tmp 28) (.tmp 30) 44 44 rfl _ _ _ _ rfl rfl hap ?_)
        clear hap
        go_roundw
        case rel => exact ⟨0 + 1, x, _, by omega, by go_num, rfl, HX.out, rfl, O7, T7, L7⟩
        case measure => simp [intOf]; omega
      | succ m =>
        obtain ⟨b, o, rfl, hb, hc⟩ := HA.out (by omega)
        have hy : y = pl (dist gs) len m := hY.out
        have hyl : y < len := by rw [hy]; exact pl_lt _ _ _ (by omega)
        have zy : (0 : Int) ≤ (y : Int) := by omega
        have yy : (y : Int) < (len : Int) := by omega
        have C : ∀ j, j < 8 → wr.cell? ⟨b, o + y * 8 + j, none⟩ = some (.int .i64 (gs y j)) := fun j hj => by
          rw [hL.out.cell hb, Nat.add_assoc, hc _ (by omega), whc_at _ _ _ hj]; rfl
        have c0 : wr.cell? ⟨b, o + y * 8, none⟩ = some (.int .i64 (gs y 0)) := C 0 (by omega)
        have c1 := C 1 (by omega)
        have c2 := C 2 (by omega)
        have c3 := C 3 (by omega)
        have c4 := C 4 (by omega)
        have c5 := C 5 (by omega)
        have c6 := C 6 (by omega)
        have c7 := C 7 (by omega)
        have CN := rnear_any (gs y) gs (tak (dist gs) len (m + 1)) (.slice (some ⟨b, o, none⟩) len cap) (.slice (some ⟨w.heap.size, 0, none⟩) len len) len wr (HG.out _ hyl) HG.out (by omega) (by
          have h := HR.out
          rcases h with ⟨_, _, h1, h2⟩ | ⟨b', o', cap', h1, h2, h3, h4⟩
          · omega
          · cases h1
            exact Or.inr ⟨_, _, _, rfl, h2, Nat.lt_of_lt_of_le h3 hL.out.size, fun i hi => by rw [hL.out.cell h3]; exact h4 i hi⟩)
          (Or.inr ⟨_, 0, _, rfl, by omega, hT.out.lt, fun i hi => by rw [Nat.zero_add]; exact hT.out.cell i (by omega)⟩)
        have eP : pos (bst (fun i => !tak (dist gs) len (m + 1) i) (fars (gs y) gs) len) = (pl (dist gs) len (m + 1) : Int) := by
          rw [hy]
          exact pl_pos (dist gs) len m (by omega)
        rw [eP] at CN
        unfold WV at CN
        obtain ⟨x, hx⟩ : ∃ x, x = pl (dist gs) len (m + 1) := ⟨_, rfl⟩
        rw [← hx] at CN
        have HX := Lib.hid hx
        have HCN := Lib.hid CN
        clear hY hc C CN eP hx hy
        go_wp2_with fail
        refine HCN.out.mono ?_
        rintro e w5 ⟨rfl, hb5⟩
        have hO5 := Lib.hid (owns_keep hO.out (Keep.all hb5) (fun g hg => (hO.out.lt g hg).2))
        have hT5 := Lib.hid (hT.out.below hb5 hT.out.lt)
        have hL5 := Lib.hid (hL.out.trans (hb5.mono hL.out.size))
        clear hO hT hL hb5 c0 c1 c2 c3 c4 c5 c6 c7 HCN HA HR HG
        have hxl : x < len := by rw [HX.out]; exact pl_lt _ _ _ (by omega)
        have zx : (0 : Int) ≤ (x : Int) := by omega
        have yx : (x : Int) < (len : Int) := by omega
        have ct : w5.cell? ⟨w.heap.size, x, none⟩ = some (.bool (tak (dist gs) len (m + 1) x)) := hT5.out.cell x hxl
        have cf : w5.frozen? ⟨w.heap.size, x, none⟩ = false := hT5.out.frozen x
        go_upto_region 10 with fail
        have O6 : Hid ((w5.setCell ⟨w.heap.size, x, none⟩ (.bool true)).ownsRow (w.heap.size + 1) 3 1 vo (m + 1) (arr ((m + 1) * 1) (inc (pl (dist gs) len))).toList) := owns_keep hO5.out ((Keep.refl (fun k => k ≠ w.heap.size) w5).setCell (p := ⟨w.heap.size, x, none⟩) (fun h => h rfl) _) (fun g hg h => by have := (hO5.out.lt g hg).1; omega)
        have T6 : Hid (Blk (w5.setCell ⟨w.heap.size, x, none⟩ (.bool true)) w.heap.size 4 len (boc (tak (dist gs) len ((m + 1) + 1)))) := (hT5.out.set x (.bool true)).congr fun i _ => by rw [HX.out]; exact tak_next _ _ _ i
        have L6 : Hid (Below w.heap.size w (w5.setCell ⟨w.heap.size, x, none⟩ (.bool true))) := hL5.out.setCell (p := ⟨w.heap.size, x, none⟩) (Nat.le_refl _) _
        clear hO5 hT5 hL5 ct cf
        generalize w5.setCell ⟨w.heap.size, x, none⟩ (.bool true) = w6 at O6 T6 L6 ⊢
        obtain ⟨g1, cap1, w7, hap, hO7, hK7, hat⟩ := app_own t44 i3 rfl (by decide) (by decide) #[.int .i64 (x : Int)] (by rw [HX.out]; show _ = #[inc (pl (dist gs) len) ((m + 1) * 1 + 0)]; rw [Nat.mul_one, Nat.add_zero]; rfl) (fun j => rfl) O6.out (by have := T6.out.lt; omega) (by omega)
        have T7 : Hid (Blk w7 w.heap.size 4 len (boc (tak (dist gs) len ((m + 1) + 1)))) := hK7.blk (fun h => by have := (O6.out.lt _ h).1; omega) T6.out
        have L7 : Hid (Below w.heap.size w w7) := L6.out.trans ((hK7.mono (fun g hg _ h => by have h1 := (O6.out.lt g h).1; have : g < w.heap.size := hg; omega) : Keep (· < w.heap.size) w6 w7).below L6.out.size)
        have O7 := Lib.hid hO7
        clear hO7 hK7 hat O6 T6 L6
        go_wp2_with (at_builtin; refine wpList_append_run rfl (.tmp 28) (.tmp 30) 44 44 rfl _ _ _ _ rfl rfl hap ?_)
        clear hap
        go_roundw
        case rel => exact ⟨(m + 1) + 1, x, _, by omega, by go_num, rfl, HX.out, rfl, O7, T7, L7⟩
        case measure => simp [intOf]; omega
    · have e : n = len := by omega
      subst e
      have yk : (n : Int) ≤ (n : Int) := by omega
      go_wp2
      go_ret
      exact ⟨_, rfl, owns_row hO.out, hL.out⟩
theorem rorder_at (gs : Nat → Nat → Int) (v : Value) (len : Nat) (w : World) (hgs : ∀ i, i < len → Ok (gs i)) (hl : len ≤ 100) (hR : Row w v 8 (whc gs) len) :
    Calls Try.prog 21 #[v] w fun e w' => ∃ ad cap, e = .returned (.slice ad len cap) ∧ Row w' (.slice ad len cap) 1 (inc (pl (dist gs) len)) len ∧ Below w.heap.size w w' := by
  refine (rorder_any gs v len w hgs hl hR).mono ?_
  rintro e w' ⟨u, rfl, h1, h2⟩
  obtain ⟨ad, cap, rfl, -⟩ := row_addr h1
  exact ⟨_, _, rfl, h1, h2⟩
end Go.Proofs.Ytmcaapgcplhhmaa
