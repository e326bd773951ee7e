import Derived.Test.YtlbclfponongbaaGreatDoorO21m
/- The object of a frame: the program's walk. -/
namespace Go.Proofs.YtlbclfponongbaaGreatDoor
open Go.RowKit Classical
def kix (c : UInt8) : Int := if c = 98 then 1 else if c = 116 then 2 else if c = 99 then 3 else 0
theorem kix_index (c : UInt8) : Lib.indexByte [98, 116, 99] c = kix c - 1 := by
  unfold kix
  by_cases h1 : c = 98
  · subst h1; decide
  · by_cases h2 : c = 116
    · subst h2; decide
    · by_cases h3 : c = 99
      · subst h3; decide
      · have b1 : ((98 : UInt8) == c) = false := by simpa using fun h => h1 h.symm
        have b2 : ((116 : UInt8) == c) = false := by simpa using fun h => h2 h.symm
        have b3 : ((99 : UInt8) == c) = false := by simpa using fun h => h3 h.symm
        rw [if_neg h1, if_neg h2, if_neg h3]
        simp [Lib.indexByte, b1, b2, b3]
theorem kix_bound (c : UInt8) : 0 ≤ kix c ∧ kix c ≤ 3 := by
  unfold kix
  split
  · decide
  · split
    · decide
    · split <;> decide
theorem kix_lt {k : Int} (h : k = 1 ∨ k = 2 ∨ k = 3) : kix (lt k) = k := by rcases h with rfl | rfl | rfl <;> decide
theorem lt_kix {c : UInt8} (h : kix c ≠ 0) : lt (kix c) = c := by
  unfold kix at h ⊢
  by_cases h1 : c = 98
  · subst h1; decide
  · by_cases h2 : c = 116
    · subst h2; decide
    · by_cases h3 : c = 99
      · subst h3; decide
      · rw [if_neg h1, if_neg h2, if_neg h3] at h
        exact absurd rfl h
theorem obj_kind {k : Int} {l : List UInt8} (h : objOk k l) : k = 1 ∨ k = 2 ∨ k = 3 := by
  rcases h.2 with h | h | h
  · exact Or.inl h
  · exact Or.inr (Or.inl h.1)
  · exact Or.inr (Or.inr h.1)
/- the kind that the first letter says: of no letter the first -/
def kof (s : List UInt8) : Int := match s with | [c] => kix c | _ => 1
theorem kof_bound (s : List UInt8) : 0 ≤ kof s ∧ kof s ≤ 3 := by
  unfold kof
  split
  · exact kix_bound _
  · decide
theorem raw_one (f : List UInt8) {s : List UInt8} {p : Nat} {e : Int} (h : rRaw 1 f 0 0 = (s, p, e)) : (∃ c, s = [c]) ∨ s = [] := by
  unfold rRaw at h
  rw [if_neg (by simp), if_neg (by omega)] at h
  split at h
  · simp only [Prod.mk.injEq] at h
    exact Or.inr h.1.symm
  · rename_i hz
    simp only [Prod.mk.injEq] at h
    left
    rw [← h.1, List.drop_zero]
    cases f with
    | nil => simp at hz
    | cons c t => exact ⟨c, by simp⟩
/- an object of a frame -/
def IsFrame (f : List UInt8) (k : Int) (l : List UInt8) : Prop := objOk k l ∧ f = fb k l
theorem read_frame {f s b : List UInt8} {p p2 : Nat} {e e2 : Int} (h1 : rRaw 1 f 0 0 = (s, p, e)) (h2 : rText 4096 f p e = (b, p2, e2)) :
    (endOf f.length p2 e2 = 0 → objOk (kof s) b → IsFrame f (kof s) b) ∧ (∀ k l, IsFrame f k l → endOf f.length p2 e2 = 0 ∧ kof s = k ∧ b = l) := by
  have l1 : p ≤ f.length := by have := rRaw_le 1 f 0 0 (Nat.zero_le _); rw [h1] at this; exact this
  have l2 : p2 ≤ f.length := by have := rText_le 4096 f p e l1; rw [h2] at this; exact this
  refine ⟨fun h0 hok => ⟨hok, ?_⟩, fun k l hf => ?_⟩
  · unfold endOf at h0
    split at h0
    · rename_i h; exact absurd h0 h
    · rename_i h
      split at h0
      · omega
      · have e0 : e2 = 0 := by omega
        subst e0
        have hp : p2 = f.length := by omega
        have he : e = 0 := by
          by_cases c : e = 0
          · exact c
          · rw [text_err c] at h2
            simp only [Prod.mk.injEq] at h2
            exact absurd h2.2.2 c
        subst he
        obtain ⟨t1, -, -, -, -⟩ := text_there l1 h2
        obtain ⟨r1, r2, r3, r4⟩ := raw_there (Nat.zero_le _) (by omega) h1
        rw [hp, List.take_length, r1, List.take_zero, List.nil_append] at t1
        rcases raw_one f h1 with ⟨c, rfl⟩ | rfl
        · have hk : kix c ≠ 0 := by
            have := obj_kind hok
            show kof [c] ≠ 0
            omega
          unfold fb
          rw [show kof [c] = kix c from rfl, lt_kix hk]
          exact t1
        · simp at r2
  · obtain ⟨hok, hf⟩ := hf
    have hk := obj_kind hok
    have hl := hok.1
    have d0 : f.drop 0 = [lt k] ++ tx l := by rw [List.drop_zero, hf]; rfl
    have g1 := raw_read (n := 1) d0 (Nat.zero_le _) rfl
    rw [h1] at g1
    simp only [Prod.mk.injEq] at g1
    obtain ⟨a1, a2, a3⟩ := g1
    subst a1 a3
    have d1 : f.drop p = tx l ++ [] := by rw [a2, drop_add, d0]; simp
    have g2 := text_read (most := 4096) d1 l1 (by omega) (by omega)
    rw [h2] at g2
    simp only [Prod.mk.injEq] at g2
    obtain ⟨b1, b2, b3⟩ := g2
    have hlen := drop_len2 d1 l1
    rw [List.append_nil] at hlen
    refine ⟨?_, kix_lt hk, b1⟩
    unfold endOf
    rw [if_neg (by omega), if_neg (by omega)]
def isFrame (f : List UInt8) : Prop := ∃ k l, IsFrame f k l
end Go.Proofs.YtlbclfponongbaaGreatDoor
/- The object of a frame: the walk. -/
namespace Go.Proofs.YtlbclfponongbaaGreatDoor
open Go.RowKit Classical
end Go.Proofs.YtlbclfponongbaaGreatDoor
/- The law's function of ObjectBack. -/
namespace Go.Proofs.YtlbclfponongbaaGreatDoor
open Go.RowKit Classical
theorem sO : Tryz.prog.underlying 23 = some (.struct (Tryz.prog.fieldsOf 23)) := by kernel_rfl
theorem sOh : Tryz.prog.stoodInHeld 23 = false := by kernel_rfl
theorem p0O (w : World) (k : Int) (l : List UInt8) : (Go.part 3 (arr 2 (ov k l)) 0).run Tryz.prog w = .ok (.int .i64 k) w := part_one w 3 (aggI w) 2 0 (ov k l) (by omega)
theorem p1O (w : World) (k : Int) (l : List UInt8) : (Go.part 9 (arr 2 (ov k l)) 1).run Tryz.prog w = .ok (.string (bs l)) w := part_one w 9 (aggS w) 2 1 (ov k l) (by omega)
theorem eqO (w : World) (D : Nat) (hD : 1 ≤ D) (X Y : Array Value) (a b : List UInt8) (j k : Int) (p0 : (Go.part 3 X 0).run Tryz.prog w = .ok (.int .i64 j) w) (q0 : (Go.part 3 Y 0).run Tryz.prog w = .ok (.int .i64 k) w)
    (p1 : (Go.part 9 X 1).run Tryz.prog w = .ok (.string (bs a)) w) (q1 : (Go.part 9 Y 1).run Tryz.prog w = .ok (.string (bs b)) w) :
    (Op.eqFields D X Y (Tryz.prog.fieldsOf 23).toList).run Tryz.prog w = .ok ((j == k) && decide (a = b)) w := by
  have s0 := eS w D (by omega) a b
  have s1 := eI w D (by omega) j k
  generalize Value.string (bs a) = C at p1 s0
  generalize Value.string (bs b) = E at q1 s0
  generalize decide (a = b) = r at s0 ⊢
  simp only [Program.fieldsOf, Tryz.underlying23]
  unfold Op.eqFields
  rw [if_pos (by decide)]
  simp only [Sem.run_bind, p0, q0, s1, Result.andThen_ok]
  generalize (j == k) = r2
  cases r2
  · simp only [Bool.not_false, if_true, Sem.run_pure, Bool.false_and]
  · simp only [Bool.not_true, Bool.false_eq_true, if_false, Bool.true_and]
    unfold Op.eqFields
    rw [if_pos (by decide)]
    simp only [Sem.run_bind, p1, q1, s0, Result.andThen_ok]
    cases r
    · simp only [Bool.not_false, if_true, Sem.run_pure]
    · simp only [Bool.not_true, Bool.false_eq_true, if_false]
      unfold Op.eqFields
      simp only [Sem.run_pure]
theorem equalIn_obj (w : World) (D : Nat) (hD : 2 ≤ D) (j k : Int) (a b : List UInt8) : (Op.equalIn D 23 (.agg (arr 2 (ov j a))) (.agg (arr 2 (ov k b)))).run Tryz.prog w = .ok (decide (j = k ∧ a = b)) w := by
  have h := eqO w (D - 1) (by omega) _ _ _ _ _ _ (p0O w j a) (p0O w k b) (p1O w j a) (p1O w k b)
  have hd : ((j == k) && decide (a = b)) = decide (j = k ∧ a = b) := by
    apply Bool.eq_iff_iff.2
    rw [Bool.and_eq_true, decide_eq_true_iff, decide_eq_true_iff, beq_iff_eq]
  rw [hd] at h
  obtain ⟨d, rfl⟩ : ∃ d, D = d + 1 := ⟨D - 1, by omega⟩
  rw [run_equalIn_struct w d 23 _ _ sO sOh]
  exact h
theorem eqlObj (j k : Int) (a b : List UInt8) (w : World) : (binOp .eql 23 (.agg #[.int .i64 j, .string (bs a)]) (.agg #[.int .i64 k, .string (bs b)])).run Tryz.prog w = .ok (.bool (decide (j = k ∧ a = b))) w := by
  rw [ov_arr, ov_arr, run_eql_struct, equalIn_obj _ _ (by omega)]; rfl
theorem neqObj (j k : Int) (a b : List UInt8) (w : World) : (binOp .neq 23 (.agg #[.int .i64 j, .string (bs a)]) (.agg #[.int .i64 k, .string (bs b)])).run Tryz.prog w = .ok (.bool (!decide (j = k ∧ a = b))) w := by
  rw [ov_arr, ov_arr, run_neq_struct, equalIn_obj _ _ (by omega)]; rfl
/- an object's block, and what was there, stay -/
structure Ob (w0 : World) (z : Nat) (k : Int) (l : List UInt8) (w : World) : Prop where
  keep : Below w0.heap.size w0 w
  blk : Blk w z 23 2 (ov k l)
theorem Ob.step {w0 : World} {z : Nat} {k : Int} {l : List UInt8} {w w' : World} (h : Ob w0 z k l w) (hb : Below w.heap.size w w') : Ob w0 z k l w' := ⟨h.keep.trans (hb.mono h.keep.size), h.blk.below hb h.blk.lt⟩
theorem Ob.alloc {w0 : World} {z : Nat} {k : Int} {l : List UInt8} {w : World} (h : Ob w0 z k l w) (o : Obj) : Ob w0 z k l (w.alloc o) := h.step ((Below.refl _ _).alloc (Nat.le_refl _) o)
theorem Ob.cells {w0 : World} {z : Nat} {k : Int} {l : List UInt8} {w : World} (h : Ob w0 z k l w) : w.cell? ⟨z, 0, none⟩ = some (.int .i64 k) ∧ w.cell? ⟨z, 1, none⟩ = some (.string (bs l)) := ⟨h.blk.cell 0 (by omega), h.blk.cell 1 (by omega)⟩
theorem Ob.start (w : World) (k : Int) (l : List UInt8) : Ob w w.heap.size k l (w.alloc (.cells #[.int .i64 k, .string (bs l)] 23)) := ⟨(Below.refl _ _).alloc (Nat.le_refl _) _, Blk.newAt _ (heap_alloc_new _ _) rfl⟩
end Go.Proofs.YtlbclfponongbaaGreatDoor
/- The writer's ids, many at once. -/
namespace Go.Proofs.YtlbclfponongbaaGreatDoor
open Go.RowKit Classical
set_option maxHeartbeats 1000000 in
set_option maxRecDepth 100000 in
theorem wids_any {K : Nat → Prop} {w : World} {h : Nat} {l : List UInt8} (p : Nat → Nat → UInt8) (n : Nat) (v : Value) (hw : Wr K w h l) (hR : Row w v 32 (pc p) n) (hK : 0 < n → ∀ g o m cap, v = .slice (some ⟨g, o, none⟩) m cap → K g) (hn : n ≤ 1000) (hl : l.length ≤ 1000000) :
    Calls Tryz.prog 45 #[.pointer (some ⟨h, 0, none⟩), v] w fun e w' => e = .returned (.tuple #[]) ∧ Wr K w' h (l ++ pb p n) ∧ Keep K w w' := by
  obtain ⟨ad, cap, rfl, ha⟩ := row_addr hR
  have HA := Lib.hid ha
  have HK := Lib.hid hK
  have W0 : Hid (Wr K w h (l ++ pb p 0)) := by show Wr K w h (l ++ []); rw [List.append_nil]; exact hw
  clear ha hK hR hw
  go_enter Tryz.func45, Tryz.ntmps45
  go_wp2
  go_loopw [10] (fun i wr => ∃ k : Nat, k ≤ n ∧ i = .int .i64 k ∧ Hid (Wr K wr h (l ++ pb p k)) ∧ Hid (Keep K w wr)) (fun i _ => n - (intOf i).toNat)
  case atStart => exact ⟨0, Nat.zero_le _, rfl, W0, Keep.refl _ _⟩
  case round =>
    obtain ⟨k, hk, rfl, hW, hKp⟩ := hrel
    by_cases hlt : k < n
    · obtain ⟨b, o, rfl, hb, hc0⟩ := HA.out (by omega)
      have ck := (hc0.keep hKp.out (HK.out (by omega) _ _ _ _ rfl)).idk k hlt
      have zk : (0 : Int) ≤ (k : Int) := by omega
      have yk : (k : Int) < (n : Int) := by omega
      have HLT := Lib.hid hlt
      have hw2 := (hW.out.alloc (.cells (arr 32 (bv (p k))) 29)).drew
      obtain ⟨v0, ad0, n0, cap0, w', h1, hr, h2, hW', hK'⟩ := app_blk hw2 (idL (p k)) wr.heap.size 29 32 32 (0, 0) (by rw [idL_length, List.length_append, pb_len]; omega) (by rw [heap_drew, heap_alloc_new, idL_arr]) (idL_length (p k)).symm
      have C1 := cell_of_one h1
      have C2 := cell_of_one h2
      have F2 := free_of_one h2
      have R := Lib.hid (And.intro hW' (hKp.out.trans (((Keep.refl K wr).alloc _).drew.trans hK')))
      have hn2 : n ≤ 1000 := hn
      clear hW' hK' hw2 h1 h2 hlt hW hKp hc0 hb
      go_upto_region 4 with (first | (refine wpList_val rfl _ _ (ex_load 29 (.tmp 12) rfl b (o + k * 32) 32 (bv (p k)) rfl Tryz.underlying29 rfl sz30 ck) ?_) | (refine wpList_store_blk rfl 29 (.tmp 5) (.tmp 13) rfl wr.heap.size 32 (bv (p k)) (bv fun _ => 0) rfl rfl 29 (Blk.newAt _ (heap_alloc_new _ _) rfl) sz30 (fun _ _ => rfl) ?_))
      rw [World.setRow_alloc_new]
      clear ck
      generalize wr.alloc (.cells (arr 32 (bv (p k))) 29) = w2 at C1 hr ⊢
      generalize wr.heap.size = z at hr ⊢
      go_region_law (refine step_append_run rfl (.tmp 18) (.tmp 19) 59 59 rfl v0 (.slice (some ⟨z, 0, none⟩) 32 32) _ _ rfl rfl hr ?_)
      all_goals go_wp2
      all_goals go_roundw
      all_goals first | exact ⟨k + 1, HLT.out, by go_num, by show Wr K _ h (l ++ (pb p k ++ idL (p k))); rw [← List.append_assoc]; exact R.out.1, R.out.2⟩ | (simp [intOf]; have := HLT.out; omega)
    · have ek : k = n := by omega
      subst ek
      have yk : (k : Int) ≤ (k : Int) := by omega
      clear hlt
      go_wp2
      go_end0
      exact ⟨rfl, hW.out, hKp.out⟩
end Go.Proofs.YtlbclfponongbaaGreatDoor
