import Derived.Test.YtiajfhoiedkaaaaO29
/- The same commits? One commit of one body. -/
namespace Go.Proofs.Ytiajfhoiedkaaaa
open Go.RowKit Classical
theorem ne_of_bs (a b : List UInt8) : (a = b → ((bs a).toList == (bs b).toList) = true) ∧ (¬ a = b → ((bs a).toList == (bs b).toList) = false) := ⟨fun h => by rw [bs_eq]; exact decide_eq_true h, fun h => by rw [bs_eq]; exact decide_eq_false h⟩
def sameC (c d : Com) : Prop := same32 c.tree d.tree ∧ c.text = d.text ∧ c.n = d.n ∧ ∀ i, i < c.n → same32 (c.par i) (d.par i)
set_option maxHeartbeats 2000000 in
set_option maxRecDepth 100000 in
theorem samecom_aux (c d : Com) (u v : Value) (w : World) (r : Bool) (hT : Hid (sameC c d → r = true)) (hF : Hid (¬ sameC c d → r = false)) (hX : Row w u 32 (pc c.par) c.n) (hY : Row w v 32 (pc d.par) d.n) (hn : c.n ≤ 9223372036854775807) (hk : d.n ≤ 9223372036854775807) :
    Calls Try.prog 23 #[.agg (arr 34 (cv c.tree u c.text)), .agg (arr 34 (cv d.tree v d.text))] w fun e w' => e = .returned (.bool r) ∧ Below w.heap.size w w' := by
  obtain ⟨t, n, p, s⟩ := c
  obtain ⟨t', k, p', s'⟩ := d
  dsimp only at *
  have B1 : Blk (w.alloc (.cells (arr 34 (cv t u s)) 36)) w.heap.size 36 34 (cv t u s) := Blk.newAt _ (heap_alloc_new _ _) rfl
  have A0 : Below w.heap.size w (w.alloc (.cells (arr 34 (cv t u s)) 36)) := (Below.refl _ _).alloc (Nat.le_refl _) _
  have BZ := Lib.hid (Blk.newAt _ (heap_alloc2_new w _ _) rfl : Blk ((w.alloc (.cells (arr 34 (cv t u s)) 36)).alloc (.cells (arr 34 (cv t' v s')) 36)) (w.heap.size + 1) 36 34 (cv t' v s'))
  have A1 := (Below.refl (w.alloc (.cells (arr 34 (cv t u s)) 36)).heap.size (w.alloc (.cells (arr 34 (cv t u s)) 36))).alloc (Nat.le_refl _) (.cells (arr 34 (cv t' v s')) 36)
  have L0 := Lib.hid (A0.trans (A1.mono A0.size))
  have BC := Lib.hid (B1.below A1 B1.lt)
  have X0 := Lib.hid (hX.below L0.out)
  have Y0 := Lib.hid (hY.below L0.out)
  clear B1 A0 A1 hX hY
  go_enter Try.func23, Try.ntmps23
  go_upto_region 1 with fail
  change Code.wp _ _ _ _ ((w.alloc (.cells (arr 34 (cv t u s)) 36)).alloc (.cells (arr 34 (cv t' v s')) 36))
  generalize w.heap.size = zb at BC BZ ⊢
  generalize (w.alloc (.cells (arr 34 (cv t u s)) 36)).alloc (.cells (arr 34 (cv t' v s')) 36) = w1 at L0 BC BZ X0 Y0 ⊢
  obtain ⟨c32, c33, ct⟩ := cv_parts BC.out
  obtain ⟨d32, d33, dt⟩ := cv_parts BZ.out
  have T1 := Lib.hid ct
  have T2 := Lib.hid dt
  have q := eD w1 10000 (by omega) t t'
  have E1 := Lib.hid (ne_of_bs s s')
  generalize bs s = sb at c33 E1
  generalize bs s' = sb' at d33 E1
  clear ct dt
  refine wp_region_lit ?_
  refine wpList_valG (by kernel_rfl) (ex_fieldP fC0 (.tmp 2) rfl zb 0 rfl 0 rfl) ?_
  try simp only [Act.put, List.setIfInBounds_toArray, List.set_cons_zero, List.set_cons_succ]
  refine wpList_valG (by kernel_rfl) (ex_load 33 (.tmp 5) rfl zb 0 32 (bv t) rfl Try.underlying33 rfl sz30 T1.out) ?_
  try simp only [Act.put, List.setIfInBounds_toArray, List.set_cons_zero, List.set_cons_succ]
  refine wpList_valG (by kernel_rfl) (ex_fieldP fC0 (.tmp 3) rfl (zb + 1) 0 rfl 0 rfl) ?_
  try simp only [Act.put, List.setIfInBounds_toArray, List.set_cons_zero, List.set_cons_succ]
  refine wpList_valG (by kernel_rfl) (ex_load 33 (.tmp 7) rfl (zb + 1) 0 32 (bv t') rfl Try.underlying33 rfl sz30 T2.out) ?_
  try simp only [Act.put, List.setIfInBounds_toArray, List.set_cons_zero, List.set_cons_succ]
  by_cases h1 : same32 t t'
  · rw [decide_eq_true h1] at q
    have H1 := Lib.hid h1
    clear h1
    refine wpList_valS (v := ?_) (by kernel_rfl) ?_ ?_
    rotate_left 1
    · (go_simp; try with_reducible rfl)
    try simp only [Act.put, List.setIfInBounds_toArray, List.set_cons_zero, List.set_cons_succ]
    refine wpList_valS (v := ?_) (by kernel_rfl) ?_ ?_
    rotate_left 1
    · (go_simp; try with_reducible rfl)
    try simp only [Act.put, List.setIfInBounds_toArray, List.set_cons_zero, List.set_cons_succ]
    refine wpList_valG (by kernel_rfl) (ex_fieldP fC2 (.tmp 2) rfl zb 0 rfl 33 rfl) ?_
    try simp only [Act.put, List.setIfInBounds_toArray, List.set_cons_zero, List.set_cons_succ]
    refine wpList_valS (v := ?_) (by kernel_rfl) ?_ ?_
    rotate_left 1
    · (go_simp; try with_reducible rfl)
    try simp only [Act.put, List.setIfInBounds_toArray, List.set_cons_zero, List.set_cons_succ]
    refine wpList_valG (by kernel_rfl) (ex_fieldP fC2 (.tmp 3) rfl (zb + 1) 0 rfl 33 rfl) ?_
    try simp only [Act.put, List.setIfInBounds_toArray, List.set_cons_zero, List.set_cons_succ]
    refine wpList_valS (v := ?_) (by kernel_rfl) ?_ ?_
    rotate_left 1
    · (go_simp; try with_reducible rfl)
    try simp only [Act.put, List.setIfInBounds_toArray, List.set_cons_zero, List.set_cons_succ]
    by_cases h2 : s = s'
    · have e2 : (sb.toList == sb'.toList) = true := E1.out.1 h2
      have H2 := Lib.hid h2
      have HI := sameids_any p p' n k u v w1 X0.out Y0.out hn hk
      have HA := Lib.hid (And.intro hT.out hF.out)
      have ER : decide (n = k ∧ ∀ i, i < n → same32 (p i) (p' i)) = r := by
        by_cases h3 : n = k ∧ ∀ i, i < n → same32 (p i) (p' i)
        · rw [decide_eq_true h3, HA.out.1 ⟨H1.out, H2.out, h3⟩]
        · rw [decide_eq_false h3, HA.out.2 fun h => h3 h.2.2]
      rw [ER] at HI
      replace HI := Lib.hid HI
      clear h2 hn hk X0 Y0 ER
      refine wpList_valS (v := ?_) (by kernel_rfl) ?_ ?_
      rotate_left 1
      · (go_simp; try with_reducible rfl)
      try simp only [Act.put, List.setIfInBounds_toArray, List.set_cons_zero, List.set_cons_succ]
      refine wpList_valS (v := ?_) (by kernel_rfl) ?_ ?_
      rotate_left 1
      · (go_simp; try with_reducible rfl)
      try simp only [Act.put, List.setIfInBounds_toArray, List.set_cons_zero, List.set_cons_succ]
      refine wpList_valS (v := ?_) (by kernel_rfl) ?_ ?_
      rotate_left 1
      · (go_simp; try with_reducible rfl)
      try simp only [Act.put, List.setIfInBounds_toArray, List.set_cons_zero, List.set_cons_succ]
      refine wpList_valG (by kernel_rfl) (ex_fieldP fC1 (.tmp 2) rfl zb 0 rfl 32 rfl) ?_
      try simp only [Act.put, List.setIfInBounds_toArray, List.set_cons_zero, List.set_cons_succ]
      refine wpList_valS (v := ?_) (by kernel_rfl) ?_ ?_
      rotate_left 1
      · (go_simp; try with_reducible rfl)
      try simp only [Act.put, List.setIfInBounds_toArray, List.set_cons_zero, List.set_cons_succ]
      refine wpList_valG (by kernel_rfl) (ex_fieldP fC1 (.tmp 3) rfl (zb + 1) 0 rfl 32 rfl) ?_
      try simp only [Act.put, List.setIfInBounds_toArray, List.set_cons_zero, List.set_cons_succ]
      refine wpList_valS (v := ?_) (by kernel_rfl) ?_ ?_
      rotate_left 1
      · (go_simp; try with_reducible rfl)
      try simp only [Act.put, List.setIfInBounds_toArray, List.set_cons_zero, List.set_cons_succ]
      refine wpList_callG (by kernel_rfl) fun K hK => ?_
      go_simp
      refine (HI.out).mono ?_
      rintro e w2 ⟨rfl, L2⟩
      refine hK _ _ ?_
      clear hK K
      try simp only [Act.put, List.setIfInBounds_toArray, List.set_cons_zero, List.set_cons_succ]
      refine wpList_valS (v := ?_) (by kernel_rfl) ?_ ?_
      rotate_left 1
      · (go_simp; try with_reducible rfl)
      try simp only [Act.put, List.setIfInBounds_toArray, List.set_cons_zero, List.set_cons_succ]
      refine wpList_valS (v := ?_) (by kernel_rfl) ?_ ?_
      rotate_left 1
      · (go_simp; try with_reducible rfl)
      try simp only [Act.put, List.setIfInBounds_toArray, List.set_cons_zero, List.set_cons_succ]
      refine wpList_nil ?_
      have L3 := Lib.hid (L0.out.trans (L2.mono L0.out.size))
      clear L0 L2
      go_wp2
      go_ret
      exact ⟨rfl, L3.out⟩
    · have e2 : (sb.toList == sb'.toList) = false := E1.out.2 h2
      have ER := Lib.hid (hF.out fun h => h2 h.2.1)
      clear h2
      refine wpList_valS (v := ?_) (by kernel_rfl) ?_ ?_
      rotate_left 1
      · (go_simp; try with_reducible rfl)
      try simp only [Act.put, List.setIfInBounds_toArray, List.set_cons_zero, List.set_cons_succ]
      refine wpList_valS (v := ?_) (by kernel_rfl) ?_ ?_
      rotate_left 1
      · (go_simp; try with_reducible rfl)
      try simp only [Act.put, List.setIfInBounds_toArray, List.set_cons_zero, List.set_cons_succ]
      refine wpList_valS (v := ?_) (by kernel_rfl) ?_ ?_
      rotate_left 1
      · (go_simp; try with_reducible rfl)
      try simp only [Act.put, List.setIfInBounds_toArray, List.set_cons_zero, List.set_cons_succ]
      refine wpList_skipG (by kernel_rfl) ?_
      try simp only [Act.put, List.setIfInBounds_toArray, List.set_cons_zero, List.set_cons_succ]
      refine wpList_skipG (by kernel_rfl) ?_
      try simp only [Act.put, List.setIfInBounds_toArray, List.set_cons_zero, List.set_cons_succ]
      refine wpList_skipG (by kernel_rfl) ?_
      try simp only [Act.put, List.setIfInBounds_toArray, List.set_cons_zero, List.set_cons_succ]
      refine wpList_skipG (by kernel_rfl) ?_
      try simp only [Act.put, List.setIfInBounds_toArray, List.set_cons_zero, List.set_cons_succ]
      refine wpList_skipG (by kernel_rfl) ?_
      try simp only [Act.put, List.setIfInBounds_toArray, List.set_cons_zero, List.set_cons_succ]
      refine wpList_valS (v := ?_) (by kernel_rfl) ?_ ?_
      rotate_left 1
      · (go_simp; try with_reducible rfl)
      try simp only [Act.put, List.setIfInBounds_toArray, List.set_cons_zero, List.set_cons_succ]
      refine wpList_valS (v := ?_) (by kernel_rfl) ?_ ?_
      rotate_left 1
      · (go_simp; try with_reducible rfl)
      try simp only [Act.put, List.setIfInBounds_toArray, List.set_cons_zero, List.set_cons_succ]
      refine wpList_nil ?_
      go_wp2
      go_ret
      rw [ER.out]
      exact ⟨rfl, L0.out⟩
  · rw [decide_eq_false h1] at q
    have ER := Lib.hid (hF.out fun h => h1 h.1)
    clear h1
    refine wpList_valS (v := ?_) (by kernel_rfl) ?_ ?_
    rotate_left 1
    · (go_simp; try with_reducible rfl)
    try simp only [Act.put, List.setIfInBounds_toArray, List.set_cons_zero, List.set_cons_succ]
    refine wpList_valS (v := ?_) (by kernel_rfl) ?_ ?_
    rotate_left 1
    · (go_simp; try with_reducible rfl)
    try simp only [Act.put, List.setIfInBounds_toArray, List.set_cons_zero, List.set_cons_succ]
    refine wpList_skipG (by kernel_rfl) ?_
    try simp only [Act.put, List.setIfInBounds_toArray, List.set_cons_zero, List.set_cons_succ]
    refine wpList_skipG (by kernel_rfl) ?_
    try simp only [Act.put, List.setIfInBounds_toArray, List.set_cons_zero, List.set_cons_succ]
    refine wpList_skipG (by kernel_rfl) ?_
    try simp only [Act.put, List.setIfInBounds_toArray, List.set_cons_zero, List.set_cons_succ]
    refine wpList_skipG (by kernel_rfl) ?_
    try simp only [Act.put, List.setIfInBounds_toArray, List.set_cons_zero, List.set_cons_succ]
    refine wpList_skipG (by kernel_rfl) ?_
    try simp only [Act.put, List.setIfInBounds_toArray, List.set_cons_zero, List.set_cons_succ]
    refine wpList_valS (v := ?_) (by kernel_rfl) ?_ ?_
    rotate_left 1
    · (go_simp; try with_reducible rfl)
    try simp only [Act.put, List.setIfInBounds_toArray, List.set_cons_zero, List.set_cons_succ]
    refine wpList_valS (v := ?_) (by kernel_rfl) ?_ ?_
    rotate_left 1
    · (go_simp; try with_reducible rfl)
    try simp only [Act.put, List.setIfInBounds_toArray, List.set_cons_zero, List.set_cons_succ]
    refine wpList_skipG (by kernel_rfl) ?_
    try simp only [Act.put, List.setIfInBounds_toArray, List.set_cons_zero, List.set_cons_succ]
    refine wpList_skipG (by kernel_rfl) ?_
    try simp only [Act.put, List.setIfInBounds_toArray, List.set_cons_zero, List.set_cons_succ]
    refine wpList_skipG (by kernel_rfl) ?_
    try simp only [Act.put, List.setIfInBounds_toArray, List.set_cons_zero, List.set_cons_succ]
    refine wpList_skipG (by kernel_rfl) ?_
    try simp only [Act.put, List.setIfInBounds_toArray, List.set_cons_zero, List.set_cons_succ]
    refine wpList_skipG (by kernel_rfl) ?_
    try simp only [Act.put, List.setIfInBounds_toArray, List.set_cons_zero, List.set_cons_succ]
    refine wpList_valS (v := ?_) (by kernel_rfl) ?_ ?_
    rotate_left 1
    · (go_simp; try with_reducible rfl)
    try simp only [Act.put, List.setIfInBounds_toArray, List.set_cons_zero, List.set_cons_succ]
    refine wpList_valS (v := ?_) (by kernel_rfl) ?_ ?_
    rotate_left 1
    · (go_simp; try with_reducible rfl)
    try simp only [Act.put, List.setIfInBounds_toArray, List.set_cons_zero, List.set_cons_succ]
    refine wpList_nil ?_
    go_wp2
    go_ret
    rw [ER.out]
    exact ⟨rfl, L0.out⟩
theorem samecom_any (c d : Com) (u v : Value) (w : World) (hX : Row w u 32 (pc c.par) c.n) (hY : Row w v 32 (pc d.par) d.n) (hn : c.n ≤ 9223372036854775807) (hk : d.n ≤ 9223372036854775807) :
    Calls Try.prog 23 #[.agg (arr 34 (cv c.tree u c.text)), .agg (arr 34 (cv d.tree v d.text))] w fun e w' => e = .returned (.bool (decide (sameC c d))) ∧ Below w.heap.size w w' :=
  samecom_aux c d u v w _ (fun h => decide_eq_true h) (fun h => decide_eq_false h) hX hY hn hk
end Go.Proofs.Ytiajfhoiedkaaaa
