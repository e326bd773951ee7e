import Derived.Test.YtiajfhoiedkaaaaO24
/- The law's function of ObjectBack. -/
namespace Go.Proofs.Ytiajfhoiedkaaaa
open Go.RowKit Classical
theorem sO : Try.prog.underlying 24 = some (.struct (Try.prog.fieldsOf 24)) := by kernel_rfl
theorem sOh : Try.prog.stoodInHeld 24 = false := by kernel_rfl
theorem p0O (w : World) (k : Int) (l : List UInt8) : (Go.part 3 (arr 2 (ov k l)) 0).run Try.prog w = .ok (.int .i64 k) w := part_one w 3 (aggI w) 2 0 (ov k l) (by omega)
theorem p1O (w : World) (k : Int) (l : List UInt8) : (Go.part 9 (arr 2 (ov k l)) 1).run Try.prog w = .ok (.string (bs l)) w := part_one w 9 (aggS w) 2 1 (ov k l) (by omega)
theorem eqO (w : World) (D : Nat) (hD : 1 ≤ D) (X Y : Array Value) (a b : List UInt8) (j k : Int) (p0 : (Go.part 3 X 0).run Try.prog w = .ok (.int .i64 j) w) (q0 : (Go.part 3 Y 0).run Try.prog w = .ok (.int .i64 k) w)
    (p1 : (Go.part 9 X 1).run Try.prog w = .ok (.string (bs a)) w) (q1 : (Go.part 9 Y 1).run Try.prog w = .ok (.string (bs b)) w) :
    (Op.eqFields D X Y (Try.prog.fieldsOf 24).toList).run Try.prog w = .ok ((j == k) && decide (a = b)) w := by
  have s0 := eS w D (by omega) a b
  have s1 := eI w D (by omega) j k
  generalize Value.string (bs a) = C at p1 s0
  generalize Value.string (bs b) = E at q1 s0
  generalize decide (a = b) = r at s0 ⊢
  simp only [Program.fieldsOf, Try.underlying24]
  unfold Op.eqFields
  rw [if_pos (by decide)]
  simp only [Sem.run_bind, p0, q0, s1, Result.andThen_ok]
  generalize (j == k) = r2
  cases r2
  · simp only [Bool.not_false, if_true, Sem.run_pure, Bool.false_and]
  · simp only [Bool.not_true, Bool.false_eq_true, if_false, Bool.true_and]
    unfold Op.eqFields
    rw [if_pos (by decide)]
    simp only [Sem.run_bind, p1, q1, s0, Result.andThen_ok]
    cases r
    · simp only [Bool.not_false, if_true, Sem.run_pure]
    · simp only [Bool.not_true, Bool.false_eq_true, if_false]
      unfold Op.eqFields
      simp only [Sem.run_pure]
theorem equalIn_obj (w : World) (D : Nat) (hD : 2 ≤ D) (j k : Int) (a b : List UInt8) : (Op.equalIn D 24 (.agg (arr 2 (ov j a))) (.agg (arr 2 (ov k b)))).run Try.prog w = .ok (decide (j = k ∧ a = b)) w := by
  have h := eqO w (D - 1) (by omega) _ _ _ _ _ _ (p0O w j a) (p0O w k b) (p1O w j a) (p1O w k b)
  have hd : ((j == k) && decide (a = b)) = decide (j = k ∧ a = b) := by
    apply Bool.eq_iff_iff.2
    rw [Bool.and_eq_true, decide_eq_true_iff, decide_eq_true_iff, beq_iff_eq]
  rw [hd] at h
  obtain ⟨d, rfl⟩ : ∃ d, D = d + 1 := ⟨D - 1, by omega⟩
  rw [run_equalIn_struct w d 24 _ _ sO sOh]
  exact h
theorem eqlObj (j k : Int) (a b : List UInt8) (w : World) : (binOp .eql 24 (.agg #[.int .i64 j, .string (bs a)]) (.agg #[.int .i64 k, .string (bs b)])).run Try.prog w = .ok (.bool (decide (j = k ∧ a = b))) w := by
  rw [ov_arr, ov_arr, run_eql_struct, equalIn_obj _ _ (by omega)]; rfl
theorem neqObj (j k : Int) (a b : List UInt8) (w : World) : (binOp .neq 24 (.agg #[.int .i64 j, .string (bs a)]) (.agg #[.int .i64 k, .string (bs b)])).run Try.prog w = .ok (.bool (!decide (j = k ∧ a = b))) w := by
  rw [ov_arr, ov_arr, run_neq_struct, equalIn_obj _ _ (by omega)]; rfl
/- an object's block, and what was there, stay -/
structure Ob (w0 : World) (z : Nat) (k : Int) (l : List UInt8) (w : World) : Prop where
  keep : Below w0.heap.size w0 w
  blk : Blk w z 24 2 (ov k l)
theorem Ob.step {w0 : World} {z : Nat} {k : Int} {l : List UInt8} {w w' : World} (h : Ob w0 z k l w) (hb : Below w.heap.size w w') : Ob w0 z k l w' := ⟨h.keep.trans (hb.mono h.keep.size), h.blk.below hb h.blk.lt⟩
theorem Ob.alloc {w0 : World} {z : Nat} {k : Int} {l : List UInt8} {w : World} (h : Ob w0 z k l w) (o : Obj) : Ob w0 z k l (w.alloc o) := h.step ((Below.refl _ _).alloc (Nat.le_refl _) o)
theorem Ob.cells {w0 : World} {z : Nat} {k : Int} {l : List UInt8} {w : World} (h : Ob w0 z k l w) : w.cell? ⟨z, 0, none⟩ = some (.int .i64 k) ∧ w.cell? ⟨z, 1, none⟩ = some (.string (bs l)) := ⟨h.blk.cell 0 (by omega), h.blk.cell 1 (by omega)⟩
theorem Ob.start (w : World) (k : Int) (l : List UInt8) : Ob w w.heap.size k l (w.alloc (.cells #[.int .i64 k, .string (bs l)] 24)) := ⟨(Below.refl _ _).alloc (Nat.le_refl _) _, Blk.newAt _ (heap_alloc_new _ _) rfl⟩
set_option maxHeartbeats 4000000 in
set_option maxRecDepth 100000 in
theorem objectback_any (k : Int) (l f : List UInt8) (w : World) (hl : l.length ≤ 9223372036854775807) (hf0 : f.length ≤ 9223372036854775807) :
    Calls Try.prog 5 #[.agg #[.int .i64 k, .string (bs l)], .string (bs f)] w fun e w' => e = .returned (.bool true) ∧ Below w.heap.size w w' := by
  have HA := Lib.hid (fun W => alive_any W)
  have zl := bs_size l
  have zf := bs_size f
  have O0 := Lib.hid (Ob.start w k l)
  go_enter Try.func5, Try.ntmps5
  go_upto_region 1 with fail
  change Code.wp _ _ _ _ (w.alloc (.cells #[.int .i64 k, .string (bs l)] 24))
  generalize w.alloc (.cells #[.int .i64 k, .string (bs l)] 24) = w1 at O0 ⊢
  generalize hz : w.heap.size = z at O0 ⊢
  have HZ := Lib.hid hz
  clear hz
  go_wp2_with fail
  refine (HA.out _).mono ?_
  rintro e w2 ⟨rfl, L2⟩
  have O2 := Lib.hid (O0.out.step L2)
  obtain ⟨c0, c1⟩ := O2.out.cells
  clear L2 O0
  by_cases b1 : 6000 < l.length
  · have t1 : (6000 : Int) < ((bs l).size : Int) := by omega
    clear b1 zl
    generalize bs l = sl at *
    go_wp2_with fail
    refine (HA.out _).mono ?_
    rintro e w3 ⟨rfl, L3⟩
    have O3 := Lib.hid (O2.out.step L3)
    clear L3
    go_wp2
    go_ret
    exact ⟨rfl, O3.out.keep⟩
  · have t1 : decide ((6000 : Int) < ((bs l).size : Int)) = false := by rw [zl]; simp; omega
    by_cases b2 : 6000 < f.length
    · have t2 : (6000 : Int) < ((bs f).size : Int) := by omega
      clear b1 b2 zl zf
      go_wp2_with fail
      refine (HA.out _).mono ?_
      rintro e w3 ⟨rfl, L3⟩
      have O3 := Lib.hid (O2.out.step L3)
      clear L3
      go_wp2
      go_ret
      exact ⟨rfl, O3.out.keep⟩
    · have t2 : decide ((6000 : Int) < ((bs f).size : Int)) = false := by rw [zf]; simp; omega
      have hf : f.length ≤ 281474976710656 := by omega
      clear b1 b2 zl zf
      by_cases hF : isFrame f
      · obtain ⟨k', l', hF⟩ := hF
        have R1 := Lib.hid (fun W => (oread_any f W hf).mono fun e w' h => (And.intro (h.1 k' l' hF) h.2.2 : e = .returned (.tuple #[.agg #[.int .i64 k', .string (bs l')], .int .i64 0]) ∧ Below W.heap.size W w'))
        have R2 := Lib.hid (fun W => (frame_any k' l' W).mono fun e w' h => (And.intro (by rw [h.1 hF.1, ← hF.2]) h.2.2 : e = .returned (.tuple #[.string (bs f), .int .i64 0]) ∧ Below W.heap.size W w'))
        clear hF
        go_wp2_with fail
        refine (R1.out _).mono ?_
        rintro e w3 ⟨rfl, L3⟩
        have O3 := Lib.hid ((O2.out.step L3).alloc (.cells #[.int .i64 k', .string (bs l')] 24))
        clear L3 O2 c0 c1
        go_wp2_with fail
        refine (R2.out _).mono ?_
        rintro e w4 ⟨rfl, L4⟩
        have O1 := Lib.hid (O3.out.step L4)
        clear L4 O3 R1 R2
        go_upto_region 10 with fail
        by_cases ho : objOk k l
        · have G1 := Lib.hid (fun W => (frame_any k l W).mono fun e w' h => (And.intro (h.1 ho) h.2.2 : e = .returned (.tuple #[.string (bs (fb k l)), .int .i64 0]) ∧ Below W.heap.size W w'))
          have G2 := Lib.hid (fun W => (oread_any (fb k l) W (by have := ho.1; unfold fb; rw [List.length_cons, tx_len]; have := dg_le6 (clamp_le (l.length : Int)); omega)).mono fun e w' h => (And.intro (h.1 k l ⟨ho, rfl⟩) h.2.2 : e = .returned (.tuple #[.agg #[.int .i64 k, .string (bs l)], .int .i64 0]) ∧ Below W.heap.size W w'))
          clear ho
          generalize bs (fb k l) = ff at G1 G2
          obtain ⟨c0, c1⟩ := O1.out.cells
          go_wp2_with fail
          refine (G1.out _).mono ?_
          rintro e w5 ⟨rfl, L5⟩
          have O5 := Lib.hid (O1.out.step L5)
          clear L5 c0 c1
          go_wp2_with fail
          refine (G2.out _).mono ?_
          rintro e w6 ⟨rfl, L6⟩
          have O6 := Lib.hid ((O5.out.step L6).alloc (.cells #[.int .i64 k, .string (bs l)] 24))
          have BQ : Hid (Blk (w6.alloc (.cells #[.int .i64 k, .string (bs l)] 24)) w6.heap.size 24 2 (ov k l)) := Blk.newAt _ (heap_alloc_new _ _) rfl
          clear L6 O5
          go_upto_region 12 with fail
          change Code.wp _ _ _ _ (w6.alloc (.cells #[.int .i64 k, .string (bs l)] 24))
          generalize w6.alloc (.cells #[.int .i64 k, .string (bs l)] 24) = w7 at O6 BQ ⊢
          generalize w6.heap.size = zq at BQ ⊢
          go_wp2_with fail
          refine (HA.out _).mono ?_
          rintro e w8 ⟨rfl, L8⟩
          have O8 := Lib.hid (O6.out.step L8)
          obtain ⟨c0, c1⟩ := O8.out.cells
          have BQ8 := Lib.hid (BQ.out.below L8 BQ.out.lt)
          have d0 : w8.cell? ⟨zq, 0, none⟩ = some (.int .i64 k) := BQ8.out.cell 0 (by omega)
          have d1 : w8.cell? ⟨zq, 1, none⟩ = some (.string (bs l)) := BQ8.out.cell 1 (by omega)
          clear L8 O6 BQ
          have hq := fun W => eqlObj k k l l W
          rw [decide_eq_true (⟨rfl, rfl⟩ : k = k ∧ l = l)] at hq
          go_wp2
          go_ret
          exact ⟨rfl, O8.out.keep⟩
        · have G1 := Lib.hid (fun W => (frame_any k l W).mono fun e w' h => (And.intro (h.2.1 ho) h.2.2 : e = .returned (.tuple #[.string ⟨#[]⟩, .int .i64 1]) ∧ Below W.heap.size W w'))
          have G2 : Hid (∀ W, Calls Try.prog 9 #[.string ⟨#[]⟩] W fun e w' => e = .returned (.tuple #[.agg #[.int .i64 0, .string ⟨#[]⟩], .int .i64 2]) ∧ Below W.heap.size W w') := fun W => (oread_any [] W (by decide)).mono fun e w' h => ⟨h.2.1 (fun ⟨k, l, h⟩ => by have := congrArg List.length h.2; unfold fb at this; simp at this), h.2.2⟩
          clear ho
          obtain ⟨c0, c1⟩ := O1.out.cells
          go_wp2_with fail
          refine (G1.out _).mono ?_
          rintro e w5 ⟨rfl, L5⟩
          have O5 := Lib.hid (O1.out.step L5)
          clear L5 c0 c1
          go_wp2_with fail
          refine (G2.out _).mono ?_
          rintro e w6 ⟨rfl, L6⟩
          have O6 := Lib.hid ((O5.out.step L6).alloc (.cells #[.int .i64 0, .string ⟨#[]⟩] 24))
          clear L6 O5
          go_wp2_with fail
          refine (HA.out _).mono ?_
          rintro e w8 ⟨rfl, L8⟩
          have O8 := Lib.hid (O6.out.step L8)
          clear L8 O6
          go_wp2
          go_ret
          exact ⟨rfl, O8.out.keep⟩
      · have R1 := Lib.hid (fun W => (oread_any f W hf).mono fun e w' h => (And.intro (h.2.1 hF) h.2.2 : e = .returned (.tuple #[.agg #[.int .i64 0, .string ⟨#[]⟩], .int .i64 2]) ∧ Below W.heap.size W w'))
        clear hF
        go_wp2_with fail
        refine (R1.out _).mono ?_
        rintro e w3 ⟨rfl, L3⟩
        have O1 := Lib.hid ((O2.out.step L3).alloc (.cells #[.int .i64 0, .string ⟨#[]⟩] 24))
        clear L3 O2 c0 c1 R1
        go_upto_region 10 with fail
        by_cases ho : objOk k l
        · have G1 := Lib.hid (fun W => (frame_any k l W).mono fun e w' h => (And.intro (h.1 ho) h.2.2 : e = .returned (.tuple #[.string (bs (fb k l)), .int .i64 0]) ∧ Below W.heap.size W w'))
          have G2 := Lib.hid (fun W => (oread_any (fb k l) W (by have := ho.1; unfold fb; rw [List.length_cons, tx_len]; have := dg_le6 (clamp_le (l.length : Int)); omega)).mono fun e w' h => (And.intro (h.1 k l ⟨ho, rfl⟩) h.2.2 : e = .returned (.tuple #[.agg #[.int .i64 k, .string (bs l)], .int .i64 0]) ∧ Below W.heap.size W w'))
          clear ho
          generalize bs (fb k l) = ff at G1 G2
          obtain ⟨c0, c1⟩ := O1.out.cells
          go_wp2_with fail
          refine (G1.out _).mono ?_
          rintro e w5 ⟨rfl, L5⟩
          have O5 := Lib.hid (O1.out.step L5)
          clear L5 c0 c1
          go_wp2_with fail
          refine (G2.out _).mono ?_
          rintro e w6 ⟨rfl, L6⟩
          have O6 := Lib.hid ((O5.out.step L6).alloc (.cells #[.int .i64 k, .string (bs l)] 24))
          have BQ : Hid (Blk (w6.alloc (.cells #[.int .i64 k, .string (bs l)] 24)) w6.heap.size 24 2 (ov k l)) := Blk.newAt _ (heap_alloc_new _ _) rfl
          clear L6 O5
          go_upto_region 12 with fail
          change Code.wp _ _ _ _ (w6.alloc (.cells #[.int .i64 k, .string (bs l)] 24))
          generalize w6.alloc (.cells #[.int .i64 k, .string (bs l)] 24) = w7 at O6 BQ ⊢
          generalize w6.heap.size = zq at BQ ⊢
          go_wp2_with fail
          refine (HA.out _).mono ?_
          rintro e w8 ⟨rfl, L8⟩
          have O8 := Lib.hid (O6.out.step L8)
          obtain ⟨c0, c1⟩ := O8.out.cells
          have BQ8 := Lib.hid (BQ.out.below L8 BQ.out.lt)
          have d0 : w8.cell? ⟨zq, 0, none⟩ = some (.int .i64 k) := BQ8.out.cell 0 (by omega)
          have d1 : w8.cell? ⟨zq, 1, none⟩ = some (.string (bs l)) := BQ8.out.cell 1 (by omega)
          clear L8 O6 BQ
          have hq := fun W => eqlObj k k l l W
          rw [decide_eq_true (⟨rfl, rfl⟩ : k = k ∧ l = l)] at hq
          go_wp2
          go_ret
          exact ⟨rfl, O8.out.keep⟩
        · have G1 := Lib.hid (fun W => (frame_any k l W).mono fun e w' h => (And.intro (h.2.1 ho) h.2.2 : e = .returned (.tuple #[.string ⟨#[]⟩, .int .i64 1]) ∧ Below W.heap.size W w'))
          have G2 : Hid (∀ W, Calls Try.prog 9 #[.string ⟨#[]⟩] W fun e w' => e = .returned (.tuple #[.agg #[.int .i64 0, .string ⟨#[]⟩], .int .i64 2]) ∧ Below W.heap.size W w') := fun W => (oread_any [] W (by decide)).mono fun e w' h => ⟨h.2.1 (fun ⟨k, l, h⟩ => by have := congrArg List.length h.2; unfold fb at this; simp at this), h.2.2⟩
          clear ho
          obtain ⟨c0, c1⟩ := O1.out.cells
          go_wp2_with fail
          refine (G1.out _).mono ?_
          rintro e w5 ⟨rfl, L5⟩
          have O5 := Lib.hid (O1.out.step L5)
          clear L5 c0 c1
          go_wp2_with fail
          refine (G2.out _).mono ?_
          rintro e w6 ⟨rfl, L6⟩
          have O6 := Lib.hid ((O5.out.step L6).alloc (.cells #[.int .i64 0, .string ⟨#[]⟩] 24))
          clear L6 O5
          go_wp2_with fail
          refine (HA.out _).mono ?_
          rintro e w8 ⟨rfl, L8⟩
          have O8 := Lib.hid (O6.out.step L8)
          clear L8 O6
          go_wp2
          go_ret
          exact ⟨rfl, O8.out.keep⟩
end Go.Proofs.Ytiajfhoiedkaaaa
