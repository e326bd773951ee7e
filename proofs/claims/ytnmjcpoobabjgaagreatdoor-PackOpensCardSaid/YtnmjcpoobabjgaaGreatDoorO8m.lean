import Derived.Test.YtnmjcpoobabjgaaGreatDoorO3m
import Derived.Test.YtnmjcpoobabjgaaGreatDoorFfm
import Derived.Deep.MidRow
import Derived.Deep.Cut
import Derived.Deep.AppendLies
import Derived.Maps.AppendAt
import Derived.Test.YtnmjcpoobabjgaaGreatDoorV7m
set_option linter.unusedVariables false
set_option linter.unusedSimpArgs false
/- Whether a commit may be: the reference's answer. -/
namespace Go.Proofs.YtnmjcpoobabjgaaGreatDoor
open Go.RowKit Classical
set_option maxHeartbeats 2000000 in
set_option maxRecDepth 100000 in
theorem qcom_any (t : Nat → UInt8) (p : Nat → Nat → UInt8) (n : Nat) (s : List UInt8) (v : Value) (w : World) (hR : Row w v 32 (pc p) n) (hn : n ≤ 140737488355328) :
    Calls Tryz.prog 98 #[.agg (arr 34 (cv t v s))] w fun e w' => e = .returned (.bool (decide (comOk ⟨t, n, p, s⟩))) ∧ Below w.heap.size w w' := by
  obtain ⟨ad, cap, rfl, ha⟩ := row_addr hR
  have HA := Lib.hid ha
  have hz := bs_size s
  have B0 : Blk (w.alloc (.cells (arr 34 (cv t (.slice ad n cap) s)) 134)) w.heap.size 134 34 (cv t (.slice ad n cap) s) := Blk.newAt _ (heap_alloc_new _ _) rfl
  have L0 : Hid (Below w.heap.size w (w.alloc (.cells (arr 34 (cv t (.slice ad n cap) s)) 134))) := (Below.refl _ _).alloc (Nat.le_refl _) _
  clear ha hR
  go_enter Tryz.func98, Tryz.ntmps98
  go_upto_region 1 with fail
  change Code.wp _ _ _ _ (w.alloc (.cells (arr 34 (cv t (.slice ad n cap) s)) 134))
  have HA1 : Hid (0 < n → ∃ b o, ad = some ⟨b, o, none⟩ ∧ b < (w.alloc (.cells (arr 34 (cv t (.slice ad n cap) s)) 134)).heap.size ∧ At (w.alloc (.cells (arr 34 (cv t (.slice ad n cap) s)) 134)) b o (n * 32) (pc p)) := fun h0 => by
    obtain ⟨b, o, h1, h2, h3⟩ := HA.out h0
    exact ⟨b, o, h1, Nat.lt_of_lt_of_le h2 L0.out.size, h3.below L0.out h2⟩
  clear HA
  generalize w.alloc (.cells (arr 34 (cv t (.slice ad n cap) s)) 134) = w1 at B0 L0 HA1 ⊢
  generalize w.heap.size = zb at B0 ⊢
  have c32 : w1.cell? ⟨zb, 32, none⟩ = some (.slice ad n cap) := B0.cell 32 (by omega)
  have c33 : w1.cell? ⟨zb, 33, none⟩ = some (.string (bs s)) := B0.cell 33 (by omega)
  have hzb : Hid (zb < w1.heap.size) := B0.lt
  generalize bs s = sb at hz c33
  clear B0
  by_cases h4 : 4 < n
  · have E := Lib.hid (decide_eq_false (p := comOk ⟨t, n, p, s⟩) fun h => by have := h.1; dsimp only at this; omega)
    have t1 : (4 : Int) < (n : Int) := by omega
    clear h4
    go_wp2
    go_ret
    rw [E.out]
    exact ⟨rfl, L0.out⟩
  · have t1 : decide ((4 : Int) < (n : Int)) = false := by simp; omega
    by_cases h64 : 64 < s.length
    · have E := Lib.hid (decide_eq_false (p := comOk ⟨t, n, p, s⟩) fun h => by have := h.2.1; dsimp only at this; omega)
      have t2 : (64 : Int) < (sb.size : Int) := by omega
      clear h4 h64
      go_wp2
      go_ret
      rw [E.out]
      exact ⟨rfl, L0.out⟩
    · have t2 : decide ((64 : Int) < (sb.size : Int)) = false := by simp; omega
      have T2 : Hid ((okC p n ↔ comOk ⟨t, n, p, s⟩) ∧ n ≤ 4) := ⟨⟨fun h => ⟨by show n ≤ 4; omega, by show s.length ≤ 64; omega, h⟩, fun h => h.2.2⟩, by omega⟩
      clear h4 h64 hz
      go_wp2
      go_loopw [3] (fun i wr => ∃ k : Nat, k ≤ n ∧ i = .int .i64 k ∧ Hid (okC p k) ∧ Hid (Below w1.heap.size w1 wr)) (fun i _ => n - (intOf i).toNat)
      case atStart => exact ⟨0, by omega, rfl, okC_zero p, Below.refl _ _⟩
      case round =>
        obtain ⟨k, hk, rfl, hO, hL⟩ := hrel
        have c32r : wr.cell? ⟨zb, 32, none⟩ = some (.slice ad n cap) := by rw [hL.out.cell hzb.out]; exact c32
        by_cases hlt : k < n
        · obtain ⟨b, o, rfl, hb, hc0⟩ := HA1.out (by omega)
          have zk : (0 : Int) ≤ (k : Int) := by omega
          have yk : (k : Int) < (n : Int) := by omega
          have HLT := Lib.hid hlt
          go_wp2
          go_loopw [4] (fun i wq => ∃ j : Nat, j ≤ k ∧ i = .int .i64 j ∧ Hid (∀ x, x < j → ¬ same32 (p x) (p k)) ∧ Hid (Below w1.heap.size w1 wq)) (fun i _ => k - (intOf i).toNat)
          case atStart => exact ⟨0, by omega, rfl, (fun x hx => absurd hx (by omega)), hL⟩
          case round =>
            rename_i _ hL0
            clear c32r
            obtain ⟨j, hj, rfl, hJ, hL1⟩ := hrel
            by_cases hjk : j < k
            · have zj : (0 : Int) ≤ (j : Int) := by omega
              have yj : (j : Int) < (n : Int) := by omega
              have HJK := Lib.hid hjk
              have hA : At wr.drew b o (n * 32) (pc p) := (hc0.below hL1.out hb : At wr b o (n * 32) (pc p))
              have S0 : wr.drew.cell? ⟨zb, 32, none⟩ = some (.slice (some ⟨b, o, none⟩) n cap) ∧ At wr.drew b (o + k * 32) 32 (bv (p k)) ∧ At wr.drew b (o + j * 32) 32 (bv (p j)) := ⟨(hL1.out.cell hzb.out).trans c32, hA.idk k hlt, hA.idk j (by omega)⟩
              have q := fun W => eqlId (p k) (p j) W
              clear hA
              go_upto_region 9 with fail
              refine wp_region_noPanic ?_
              refine wp_region_held_drew (S := (fun w' => w'.cell? ⟨zb, 32, none⟩ = some (.slice (some ⟨b, o, none⟩) n cap) ∧ At w' b (o + k * 32) 32 (bv (p k)) ∧ At w' b (o + j * 32) 32 (bv (p j)))) (by kernel_rfl) S0 (fun hHeld => ?_)
              refine wpAnyH_take (i := 0) (oi := ⟨some 27, .fieldAddr 134 (.tmp 1) 1, 0, "ref.go:43", #[], none⟩) (v := ?_) rfl (by kernel_rfl) (by kernel_rfl) (by kernel_rfl) (fun _ _ _ h => h) (Or.inl ⟨by kernel_rfl, ?_⟩) (by assumption) ?_
              rotate_left 1
              · (intro wS hSw; (try dsimp only at hSw); go_simp; try with_reducible rfl)
              try simp only [Act.put, tA, tZ, tS]
              refine wpAnyH_take (i := 1) (oi := ⟨some 28, .load 30 (.tmp 27), 30, "ref.go:43", #[⟨0, .data⟩], none⟩) (v := ?_) rfl (by kernel_rfl) (by kernel_rfl) (by kernel_rfl) (fun _ _ _ h => h) (Or.inl ⟨by kernel_rfl, ?_⟩) (by assumption) ?_
              rotate_left 1
              · (intro wS hSw; (try dsimp only at hSw); go_simp; try with_reducible rfl)
              try simp only [Act.put, tA, tZ, tS]
              refine wpAnyH_take (i := 2) (oi := ⟨some 29, .move (.tmp 3), 3, "ref.go:43", #[], none⟩) (v := ?_) rfl (by kernel_rfl) (by kernel_rfl) (by kernel_rfl) (fun _ _ _ h => h) (Or.inl ⟨by kernel_rfl, ?_⟩) (by assumption) ?_
              rotate_left 1
              · (intro wS hSw; (try dsimp only at hSw); go_simp; try with_reducible rfl)
              try simp only [Act.put, tA, tZ, tS]
              refine wpAnyH_take (i := 3) (oi := ⟨some 30, .indexAddr 30 (.tmp 28) (.tmp 29), 0, "ref.go:43", #[⟨1, .data⟩, ⟨2, .data⟩], none⟩) (v := ?_) rfl (by kernel_rfl) (by kernel_rfl) (by kernel_rfl) (fun _ _ _ h => h) (Or.inl ⟨by kernel_rfl, ?_⟩) (by assumption) ?_
              rotate_left 1
              · (intro wS hSw; (try dsimp only at hSw); go_simp; try with_reducible rfl)
              try simp only [Act.put, tA, tZ, tS]
              refine wpAnyH_take (i := 4) (oi := ⟨some 31, .load 37 (.tmp 30), 37, "ref.go:43", #[⟨3, .data⟩], none⟩) rfl (by kernel_rfl) (by kernel_rfl) (by kernel_rfl) (fun _ _ _ h => h) (Or.inl ⟨by kernel_rfl, fun wS hSw => ex_load 37 (.tmp 30) rfl b (o + k * 32) 32 (bv (p k)) rfl Tryz.underlying37 rfl sz30 hSw.2.1⟩) (by assumption) ?_
              try simp only [Act.put, tA, tZ, tS]
              refine wpAnyH_take (i := 5) (oi := ⟨some 32, .fieldAddr 134 (.tmp 1) 1, 0, "ref.go:43", #[], none⟩) (v := ?_) rfl (by kernel_rfl) (by kernel_rfl) (by kernel_rfl) (fun _ _ _ h => h) (Or.inl ⟨by kernel_rfl, ?_⟩) (by assumption) ?_
              rotate_left 1
              · (intro wS hSw; (try dsimp only at hSw); go_simp; try with_reducible rfl)
              try simp only [Act.put, tA, tZ, tS]
              refine wpAnyH_take (i := 6) (oi := ⟨some 33, .load 30 (.tmp 32), 30, "ref.go:43", #[⟨5, .data⟩], none⟩) (v := ?_) rfl (by kernel_rfl) (by kernel_rfl) (by kernel_rfl) (fun _ _ _ h => h) (Or.inl ⟨by kernel_rfl, ?_⟩) (by assumption) ?_
              rotate_left 1
              · (intro wS hSw; (try dsimp only at hSw); go_simp; try with_reducible rfl)
              try simp only [Act.put, tA, tZ, tS]
              refine wpAnyH_take (i := 7) (oi := ⟨some 34, .move (.tmp 4), 3, "ref.go:43", #[], none⟩) (v := ?_) rfl (by kernel_rfl) (by kernel_rfl) (by kernel_rfl) (fun _ _ _ h => h) (Or.inl ⟨by kernel_rfl, ?_⟩) (by assumption) ?_
              rotate_left 1
              · (intro wS hSw; (try dsimp only at hSw); go_simp; try with_reducible rfl)
              try simp only [Act.put, tA, tZ, tS]
              refine wpAnyH_take (i := 8) (oi := ⟨some 35, .indexAddr 30 (.tmp 33) (.tmp 34), 0, "ref.go:43", #[⟨6, .data⟩, ⟨7, .data⟩], none⟩) (v := ?_) rfl (by kernel_rfl) (by kernel_rfl) (by kernel_rfl) (fun _ _ _ h => h) (Or.inl ⟨by kernel_rfl, ?_⟩) (by assumption) ?_
              rotate_left 1
              · (intro wS hSw; (try dsimp only at hSw); go_simp; try with_reducible rfl)
              try simp only [Act.put, tA, tZ, tS]
              refine wpAnyH_take (i := 9) (oi := ⟨some 36, .load 37 (.tmp 35), 37, "ref.go:43", #[⟨8, .data⟩], none⟩) rfl (by kernel_rfl) (by kernel_rfl) (by kernel_rfl) (fun _ _ _ h => h) (Or.inl ⟨by kernel_rfl, fun wS hSw => ex_load 37 (.tmp 35) rfl b (o + j * 32) 32 (bv (p j)) rfl Tryz.underlying37 rfl sz30 hSw.2.2⟩) (by assumption) ?_
              try simp only [Act.put, tA, tZ, tS]
              refine wpAnyH_take (i := 10) (oi := ⟨some 37, .binOp BinOp.eql 37 (.tmp 31) (.tmp 36) 37, 4, "ref.go:43", #[⟨4, .data⟩, ⟨9, .data⟩], none⟩) (v := ?_) rfl (by kernel_rfl) (by kernel_rfl) (by kernel_rfl) (fun _ _ _ h => h) (Or.inl ⟨by kernel_rfl, ?_⟩) (by assumption) ?_
              rotate_left 1
              · (intro wS hSw; (try dsimp only at hSw); go_simp; try with_reducible rfl)
              try simp only [Act.put, tA, tZ, tS]
              refine wpAnyH_done (by kernel_rfl) ?_ _
              refine NoPanic.normal ?_
              clear hHeld S0 q
              by_cases hs : same32 (p k) (p j)
              · rw [decide_eq_true hs]
                have E := Lib.hid (decide_eq_false (p := comOk ⟨t, n, p, s⟩) fun h => okC_not HLT.out ⟨j, HJK.out, fun i hi => (hs i hi).symm⟩ (T2.out.1.2 h))
                clear hs
                go_wp2
                go_ret
                rw [E.out]
                exact ⟨rfl, L0.out.trans (hL1.out.drew.mono L0.out.size)⟩
              · rw [decide_eq_false hs]
                have J2 : Hid (∀ x, x < j + 1 → ¬ same32 (p x) (p k)) := fun x hx h => by
                  by_cases c : x < j
                  · exact hJ.out x c h
                  · have e : x = j := by omega
                    subst e
                    exact hs fun i hi => (h i hi).symm
                have L2 : Hid (Below w1.heap.size w1 wr.drew) := hL1.out.drew
                clear hs
                go_wp2
                go_roundw
                case rel => exact ⟨j + 1, HJK.out, by go_num, J2, L2⟩
                case measure => simp [intOf]; omega
            · have ej : j = k := by omega
              subst ej
              have O2 := Lib.hid (okC_succ hO.out fun h => by obtain ⟨x, hx, h⟩ := h; exact hJ.out x hx h)
              have yj : (j : Int) ≤ (j : Int) := by omega
              clear hjk
              go_wp2
              go_roundw
              case rel => exact ⟨j + 1, HLT.out, by go_num, O2, hL1⟩
              case measure => simp [intOf]; omega
        · have ek : k = n := by omega
          subst ek
          have E := Lib.hid (decide_eq_true (T2.out.1.1 hO.out))
          have yk : (k : Int) ≤ (k : Int) := by omega
          clear hlt
          go_wp2
          go_ret
          rw [E.out]
          exact ⟨rfl, L0.out.trans (hL.out.mono L0.out.size)⟩
end Go.Proofs.YtnmjcpoobabjgaaGreatDoor
/- Reading a tree's body, plainly; appends to rows of the call's own. -/
namespace Go.Proofs.YtnmjcpoobabjgaaGreatDoor
open Go.RowKit Classical
def eqE (e f : Ent) : Prop := e.name = f.name ∧ e.kind = f.kind ∧ same32 e.id f.id
theorem eqE.refl (e : Ent) : eqE e e := ⟨rfl, rfl, fun _ _ => rfl⟩
theorem eqE.bytes {e f : Ent} (h : eqE e f) : eb e = eb f := by
  unfold eb
  rw [h.1, h.2.1, idL_congr h.2.2]
def upE (es : Nat → Ent) (k : Nat) (x : Ent) (i : Nat) : Ent := if i = k then x else es i
theorem upE_same (es : Nat → Ent) (k : Nat) (x : Ent) : upE es k x k = x := by unfold upE; rw [if_pos rfl]
theorem upE_old (es : Nat → Ent) (k : Nat) (x : Ent) (i : Nat) (h : i < k) : upE es k x i = es i := by unfold upE; rw [if_neg (by omega)]
theorem tb_up (es : Nat → Ent) (k : Nat) (x : Ent) : tb (upE es k x) (k + 1) = tb es k ++ eb x := by
  show tb (upE es k x) k ++ eb (upE es k x k) = _
  rw [upE_same, tb_congr (fs := es) fun i hi => by rw [upE_old es k x i hi]]
/- no reading ends with 5 -/
theorem num_five (most : Int) (l : List UInt8) (p : Nat) (e : Int) (h : e ≠ 5) : (rNum most l p e).2.2 ≠ 5 := by
  unfold rNum
  split
  · exact h
  · split
    · rcases rd_zero_err most (l.drop p) 0 0 with h2 | ⟨_, _, h2⟩
      · rename_i h3; exact absurd h2 h3
      · intro h4
        dsimp only at h4
        omega
    · simp
theorem raw_five (n : Int) (l : List UInt8) (p : Nat) (e : Int) (h : e ≠ 5) : (rRaw n l p e).2.2 ≠ 5 := by
  unfold rRaw
  split
  · exact h
  · split
    · simp
    · split <;> simp
theorem text_five (most : Int) (l : List UInt8) (p : Nat) (e : Int) (h : e ≠ 5) : (rText most l p e).2.2 ≠ 5 := by
  unfold rText
  split
  · exact h
  · split
    · exact raw_five _ _ _ _ (num_five _ _ _ _ (by omega))
    · exact raw_five _ _ _ _ (num_five _ _ _ _ (by omega))
theorem text_size (most : Nat) (l : List UInt8) (p : Nat) (e : Int) (hp : p ≤ l.length) : (rText most l p e).1.length ≤ most := by
  by_cases he : e = 0
  · subst he
    by_cases h2 : (rText most l p 0).2.2 = 0
    · have := (text_there hp (show rText most l p 0 = ((rText most l p 0).1, (rText most l p 0).2.1, 0) from Prod.ext rfl (Prod.ext rfl h2))).2.1
      omega
    · unfold rText at h2 ⊢
      rw [if_neg (by simp)] at h2 ⊢
      split
      · rename_i h3
        have : (rRaw (rNum most l p 0).1 l (rNum most l p 0).2.1 (rNum most l p 0).2.2).1 = [] := by
          unfold rRaw at h3 ⊢
          split
          · rfl
          · split
            · rfl
            · split
              · rfl
              · rename_i a b c
                rw [if_neg a, if_neg b, if_neg c] at h3
                exact absurd rfl h3
        rw [this]; simp
      · rename_i h3
        rw [if_neg h3] at h2
        exact absurd h2 h3
  · rw [text_err he]; simp
theorem raw_idL {l s : List UInt8} {p q : Nat} {e e2 : Int} (hp : p ≤ l.length) (h : rRaw 32 l p e = (s, q, e2)) (h2 : e2 = 0) : e = 0 ∧ l.take q = l.take p ++ s ∧ s.length = 32 ∧ q = p + 32 ∧ q ≤ l.length := by
  subst h2
  by_cases he : e = 0
  · subst he
    obtain ⟨h1, h2, h3, h4⟩ := raw_there hp (by omega) h
    exact ⟨rfl, h1, h2, h3, h4⟩
  · rw [raw_err he] at h
    simp only [Prod.mk.injEq] at h
    exact absurd h.2.2 he
/- what holds of the entries read so far -/
structure PI (l : List UInt8) (es : Nat → Ent) (k p : Nat) (e : Int) : Prop where
  le : p ≤ l.length
  five : e ≠ 5
  names : ∀ i, i < k → (es i).name.length ≤ 32
  sound : e = 0 → l.take p = tb es k
  cnt : 33 * k ≤ l.length + 33
  full : ∀ fs m, IsTree l fs m → e = 0 ∧ k ≤ m ∧ p = (tb fs k).length ∧ ∀ i, i < k → eqE (es i) (fs i)
theorem PI.zero (l : List UInt8) (es : Nat → Ent) : PI l es 0 0 0 :=
  ⟨Nat.zero_le _, by decide, fun i hi => absurd hi (by omega), fun _ => by simp [tb], by omega, fun fs m _ => ⟨rfl, Nat.zero_le _, rfl, fun i hi => absurd hi (by omega)⟩⟩
theorem eb_big (e : Ent) : 33 ≤ (eb e).length := by
  unfold eb
  have := dg_pos (clamp e.kind)
  rw [List.length_append, List.length_append, idL_length]; omega
theorem tb_big (es : Nat → Ent) : ∀ k, 33 * k ≤ (tb es k).length
  | 0 => Nat.zero_le _
  | k + 1 => by
    have h1 := tb_big es k
    have h2 := eb_big (es k)
    show _ ≤ (tb es k ++ eb (es k)).length
    rw [List.length_append]; omega
theorem PI.few {l : List UInt8} {es : Nat → Ent} {k p : Nat} (h : PI l es k p 0) : 33 * k ≤ l.length := by
  have h1 := h.sound rfl
  have h2 := tb_big es k
  rw [← h1, List.length_take] at h2
  omega
theorem PI.step {l : List UInt8} {es : Nat → Ent} {k p n1 p1 p2 p3 : Nat} {s2 s3 : List UInt8} {e1 e2 e3 : Int} (h : PI l es k p 0) (hp : p < l.length) (h1 : rNum 2 l p 0 = (n1, p1, e1)) (h2 : rText 32 l p1 e1 = (s2, p2, e2)) (h3 : rRaw 32 l p2 e2 = (s3, p3, e3)) :
    PI l (upE es k ⟨s2, n1, idOf s3⟩) (k + 1) p3 e3 ∧ (e3 = 0 → p < p3) := by
  have l1 : p1 ≤ l.length := by have := rNum_le 2 l p 0 h.le; rw [h1] at this; exact this
  have l2 : p2 ≤ l.length := by have := rText_le 32 l p1 e1 l1; rw [h2] at this; exact this
  have l3 : p3 ≤ l.length := by have := rRaw_le 32 l p2 e2 l2; rw [h3] at this; exact this
  have v1 : e1 ≠ 5 := by have := num_five 2 l p 0 (by decide); rw [h1] at this; exact this
  have v2 : e2 ≠ 5 := by have := text_five 32 l p1 e1 v1; rw [h2] at this; exact this
  have v3 : e3 ≠ 5 := by have := raw_five 32 l p2 e2 v2; rw [h3] at this; exact this
  have z2 : s2.length ≤ 32 := by have := text_size 32 l p1 e1 l1; rw [show ((32 : Nat) : Int) = 32 from rfl, h2] at this; exact this
  have snd : e3 = 0 → l.take p3 = l.take p ++ eb ⟨s2, n1, idOf s3⟩ ∧ p < p3 := by
    intro he
    obtain ⟨r1, r2, r3, r4, r5⟩ := raw_idL l2 h3 he
    have he1 : e1 = 0 := by
      by_cases c : e1 = 0
      · exact c
      · rw [text_err c] at h2
        simp only [Prod.mk.injEq] at h2
        exact absurd (h2.2.2.trans r1) c
    rw [r1] at h2
    rw [he1] at h1 h2
    obtain ⟨t1, t2, t3, t4, t5⟩ := text_there l1 h2
    obtain ⟨u1, u2, u3, u4, u5⟩ := num_there h.le h1
    have hd := dg_pos n1
    refine ⟨?_, by omega⟩
    rw [r2, t1, u1]
    unfold eb
    dsimp only
    rw [idL_idOf s3 r3, clamp_of (by omega) (by omega)]
    simp [List.append_assoc]
  refine ⟨⟨l3, v3, fun i hi => ?_, fun he => ?_, by have := h.few; omega, fun fs m hT => ?_⟩, fun he => (snd he).2⟩
  · by_cases c : i < k
    · rw [upE_old _ _ _ _ c]; exact h.names i c
    · rw [show i = k by omega, upE_same]; exact z2
  · rw [(snd he).1, h.sound rfl, tb_up]
  · obtain ⟨-, f1, f2, f3⟩ := h.full fs m hT
    obtain ⟨ok, hl⟩ := hT
    have hkm : k < m := by
      by_cases c : k < m
      · exact c
      · have e : k = m := by omega
        subst e
        rw [← hl] at f2
        omega
    obtain ⟨R, hR⟩ := tb_split fs (k + 1) m hkm
    have hd : l.drop p = eb (fs k) ++ R := by
      rw [hl, hR, f2]
      show (tb fs k ++ eb (fs k) ++ R).drop _ = _
      rw [List.append_assoc, List.drop_append_of_le_length (Nat.le_refl _), List.drop_length, List.nil_append]
    obtain ⟨g1, g2, g3⟩ := read_ent h.le hd (ok.2.1 k hkm).2 (ok.2.1 k hkm).1.2.1
    rw [h1] at g1
    simp only [Prod.mk.injEq] at g1
    obtain ⟨a1, a2, a3⟩ := g1
    subst a1 a2 a3
    rw [g2] at h2
    simp only [Prod.mk.injEq] at h2
    obtain ⟨b1, b2, b3⟩ := h2
    subst b1 b2 b3
    rw [g3] at h3
    simp only [Prod.mk.injEq] at h3
    obtain ⟨c1, c2, c3⟩ := h3
    refine ⟨c3.symm, hkm, ?_, fun i hi => ?_⟩
    · rw [← c2, f2]
      show _ = (tb fs k ++ eb (fs k)).length
      rw [List.length_append]
    · by_cases c : i < k
      · rw [upE_old _ _ _ _ c]; exact f3 i c
      · rw [show i = k by omega, upE_same]
        refine ⟨rfl, ?_, fun j hj => ?_⟩
        · exact (kind_clamp (ok.2.1 k hkm).2).2.1
        · show idOf s3 j = _
          rw [← c1, id_get _ j hj]
def isTree (l : List UInt8) : Prop := ∃ es n, IsTree l es n
theorem entsOk_congr {es fs : Nat → Ent} {n : Nat} (h : ∀ i, i < n → eqE (es i) (fs i)) (ho : entsOk fs n) : entsOk es n := by
  obtain ⟨h1, h2, h3⟩ := ho
  refine ⟨h1, fun i hi => ?_, fun i hi => ?_⟩
  · rw [(h i hi).1, (h i hi).2.1]; exact h2 i hi
  · rw [(h i (by omega)).1, (h (i + 1) hi).1]; exact h3 i hi
theorem PI.end {l : List UInt8} {es : Nat → Ent} {k p : Nat} {e : Int} (h : PI l es k p e) (h5 : endOf l.length p e ≠ 5) : (endOf l.length p e = 0 ∧ entsOk es k ↔ isTree l) ∧ (endOf l.length p e = 0 → entsOk es k → IsTree l es k) := by
  have key : endOf l.length p e = 0 → entsOk es k → IsTree l es k := by
    intro h0 hok
    unfold endOf at h0
    split at h0
    · rename_i h1; exact absurd h0 h1
    · rename_i h1
      split at h0
      · omega
      · have e0 : e = 0 := by omega
        have hp : p = l.length := by have := h.le; omega
        have := h.sound e0
        rw [hp, List.take_length] at this
        exact ⟨hok, this⟩
  refine ⟨⟨fun ⟨h0, hok⟩ => ⟨es, k, key h0 hok⟩, ?_⟩, key⟩
  rintro ⟨fs, m, hT⟩
  obtain ⟨f0, f1, f2, f3⟩ := h.full fs m hT
  have hp : ¬ p < l.length := by
    intro c
    apply h5
    unfold endOf
    rw [if_neg (by omega), if_pos c]
  have hkm : k = m := by
    by_cases c : k < m
    · have := tb_pos fs c
      rw [← hT.2] at this
      omega
    · omega
  subst hkm
  refine ⟨?_, entsOk_congr f3 hT.1⟩
  unfold endOf
  rw [if_neg (by omega), if_neg hp]
/- where a reader stands, as a measure -/
def rdM (n : Nat) (w : World) (r : Nat) : Nat :=
  match w.cell? ⟨r, 1, none⟩, w.cell? ⟨r, 2, none⟩ with
  | some (.int _ p), some (.int _ e) => if e = 0 then n + 1 - p.toNat else 0
  | _, _ => 0
theorem rdM_of {w : World} {r : Nat} {l : List UInt8} {p : Nat} {e : Int} (h : Rd w r l p e) (n : Nat) : rdM n w r = if e = 0 then n + 1 - p else 0 := by
  unfold rdM
  rw [h.cells.2.1, h.cells.2.2.1]
  simp
/- appends to a row of the call's own -/
theorem arr_add (a m : Nat) (c : Nat → Value) : (arr a c).toList ++ (arr m (fun j => c (a + j))).toList = (arr (a + m) c).toList := by
  apply List.ext_getElem?
  intro i
  by_cases h : i < a
  · rw [List.getElem?_append_left (by rw [Array.length_toList, arr_size]; exact h), Array.getElem?_toList, Array.getElem?_toList, arr_get _ _ _ h, arr_get _ _ _ (by omega)]
  · rw [List.getElem?_append_right (by rw [Array.length_toList, arr_size]; omega), Array.length_toList, arr_size, Array.getElem?_toList, Array.getElem?_toList]
    by_cases h2 : i < a + m
    · rw [arr_get _ _ _ (by omega), arr_get _ _ _ h2, show a + (i - a) = i by omega]
    · rw [Array.getElem?_eq_none (by rw [arr_size]; omega), Array.getElem?_eq_none (by rw [arr_size]; omega)]
theorem owns_keep {K : Nat → Prop} {w w' : World} {B e m : Nat} {v : Value} {n : Nat} {xs : List Value} (h : w.ownsRow B e m v n xs) (hk : Keep K w w') (hK : ∀ g, v.ownBlock = some g → K g) : w'.ownsRow B e m v n xs := by
  refine ⟨h.1, ?_⟩
  rcases h.2 with hn | ⟨g, cap, cur, rfl, hbg, hgg, rest⟩
  · exact .inl hn
  · exact .inr ⟨g, cap, cur, rfl, hbg, by rw [hk.block g (hK g rfl) (lt_of_block hgg)]; exact hgg, rest⟩
theorem owns_all {w w' : World} {B e m : Nat} {v : Value} {n : Nat} {xs : List Value} (h : w.ownsRow B e m v n xs) (hb : Below w.heap.size w w') : w'.ownsRow B e m v n xs := owns_keep h (K := fun _ => True) (Keep.all hb) fun _ _ => trivial
theorem owns_congr {w : World} {B e m : Nat} {v : Value} {n : Nat} {xs ys : List Value} (h : w.ownsRow B e m v n xs) (he : xs = ys) : w.ownsRow B e m v n ys := he ▸ h
theorem app_own {B : Nat} {w : World} {v : Value} {n m t e bytes : Nat} {z : Value} {c : Nat → Value} (ht : Tryz.prog.underlying t = some (.slice e)) (hi : (Tryz.prog.info? e).map (fun i => (i.zero, i.size, i.bytes)) = some (some z, m, bytes)) (hzs : z.cells.size = m) (hm : 0 < m) (hby : bytes ≤ 64) (A : Array Value) (hA : A = arr m (fun j => c (n * m + j))) (h1 : ∀ j, (c j).oneCell' = true)
    (ho : w.ownsRow B e m v n (arr (n * m) c).toList) (hB : B ≤ w.heap.size) (hn : n + 1 ≤ 100000) :
    ∃ g cap w', (Builtin.append_ #[t, t] t #[v, .slice (some ⟨w.heap.size, 0, none⟩) 1 1]).run Tryz.prog (w.alloc (.cells A e)) = .ok (.slice (some ⟨g, 0, none⟩) (n + 1) cap) w' ∧
      w'.ownsRow B e m (.slice (some ⟨g, 0, none⟩) (n + 1) cap) (n + 1) (arr ((n + 1) * m) c).toList ∧ Keep (fun k => v.ownBlock ≠ some k) w w' ∧ (v.ownBlock = some g ∨ g = w.heap.size + 1) := by
  obtain ⟨i0, hi0, hz0, hz1, hz2⟩ := info_parts hi
  obtain ⟨g, cap, w', hr, ho', hg, hat, hlt⟩ := run_append_lies (P := Tryz.prog) (w.alloc (.cells A e)) t t B e i0 z m bytes ht hi0 hz0 hz1 hz2 hzs hm v n _ (ho.alloc _) ⟨w.heap.size, 0, none⟩ 1 1 A.toList (by rw [hA, Array.length_toList, arr_size, Nat.one_mul])
    (World.news_of_block (heap_alloc_new _ _)) (by
      intro u hu
      rw [hA, Array.mem_toList_iff] at hu
      unfold arr at hu
      rw [Array.mem_ofFn] at hu
      obtain ⟨i, rfl⟩ := hu
      exact h1 _) (by decide) (by unfold maxLen; omega) (by
      have : (n + 1) * bytes ≤ 100000 * 64 := Nat.mul_le_mul hn hby
      omega) (by simp; omega) (w.heap.size + 1) (by simp)
  refine ⟨g, cap, w', hr, ?_, ?_, hat⟩
  · rw [hA, arr_add, ← Nat.succ_mul] at ho'
    exact ho'
  · exact ((Keep.refl _ w).alloc _).grown hg (fun k hk h => h hk)
/- a row of the call's own as a row -/
theorem owns_row {w : World} {B e m n : Nat} {v : Value} {c : Nat → Value} (h : w.ownsRow B e m v n (arr (n * m) c).toList) : Row w v m c n := by
  rcases h.2 with ⟨rfl, rfl⟩ | ⟨g, cap, cur, rfl, hb, hg, h2, h3, h4, h5⟩
  · exact Or.inl ⟨none, 0, rfl, rfl⟩
  · by_cases hn : n = 0
    · subst hn
      exact Or.inl ⟨_, cap, rfl, rfl⟩
    · refine Or.inr ⟨g, 0, cap, rfl, by omega, h2, lt_of_block hg, fun i hi => ?_⟩
      have e1 : (arr (n * m) c).toList[i]? = some (c i) := by rw [Array.getElem?_toList]; exact arr_get _ _ _ hi
      rw [← h5, List.getElem?_take, if_pos hi, Array.getElem?_toList] at e1
      rw [Nat.zero_add, cell_of_row _ _ _ _ _ _ hg]
      exact e1
/- a slice whose block, if any, is not below B -/
def Fresh (B : Nat) (v : Value) : Prop := ∀ g o n c, v = .slice (some ⟨g, o, none⟩) n c → B ≤ g
theorem owns_fresh {w : World} {B e m n : Nat} {v : Value} {xs : List Value} (h : w.ownsRow B e m v n xs) : Fresh B v := by
  rintro g o n c rfl
  exact (h.lt g rfl).1
theorem Fresh.nil (B : Nat) : Fresh B (.slice none 0 0) := fun g o n c h => by cases h
theorem alloc_below {w w' : World} {o : Obj} (h : Below (w.alloc o).heap.size (w.alloc o) w') : Below w.heap.size w w' := ((Below.refl w.heap.size w).alloc (Nat.le_refl _) o).trans (h.mono (by simp))
theorem own_lt {w : World} {B e m n g : Nat} {v : Value} {xs : List Value} (h : w.ownsRow B e m v n xs) (hg : v.ownBlock = some g) : B ≤ g ∧ g < w.heap.size := h.lt g hg
end Go.Proofs.YtnmjcpoobabjgaaGreatDoor
/- Rows of pieces. -/
namespace Go.Proofs.YtnmjcpoobabjgaaGreatDoor
set_option maxRecDepth 100000
open Go.RowKit
/- n cells from a place on, as a function tells them -/
section
variable {P : Program}
/- the same as steps of a region that draws -/
/- field k of a struct lies q cells behind its beginning -/
/- a slice of one element of m cells -/
end
/- a slice of n elements of m cells each, which c tells -/
/- appends to a row of the call's own -/
/- a row of the call's own as a row -/
/- a slice whose block, if any, is not below B -/
/- the cells of pieces -/
def zz : Pz := ⟨0, 0, []⟩
def zc8 (l : List Pz) (i : Nat) : Value := if i % 2 = 0 then cpv (l.getD (i / 2) zz) else .string (bs (l.getD (i / 2) zz).t)
theorem zc_0 (l : List Pz) (k : Nat) : zc8 l (k * 2) = cpv (l.getD k zz) := by
  unfold zc8
  rw [if_pos (by omega), show k * 2 / 2 = k by omega]
theorem zc_1 (l : List Pz) (k : Nat) : zc8 l (k * 2 + 1) = .string (bs (l.getD k zz).t) := by
  unfold zc8
  rw [if_neg (by omega), show (k * 2 + 1) / 2 = k by omega]
theorem zc_one8 (l : List Pz) (i : Nat) : (zc8 l i).oneCell' = true := by unfold zc8; split <;> rfl
theorem zc_snoc (l : List Pz) (x : Pz) (i : Nat) (h : i < l.length * 2) : zc8 (l ++ [x]) i = zc8 l i := by
  unfold zc8
  rw [List.getD_eq_getElem?_getD, List.getD_eq_getElem?_getD, List.getElem?_append_left (by omega)]
theorem zc_last (l : List Pz) (x : Pz) : #[cpv x, .string (bs x.t)] = arr 2 (fun j => zc8 (l ++ [x]) (l.length * 2 + j)) := by
  have e : (l ++ [x]).getD l.length zz = x := by rw [List.getD_eq_getElem?_getD, List.getElem?_concat_length]; rfl
  have h0 := zc_0 (l ++ [x]) l.length
  have h1 := zc_1 (l ++ [x]) l.length
  rw [e] at h0 h1
  rw [← h0, ← h1]
  rfl
def RowZ (w : World) (v : Value) (l : List Pz) : Prop := Row w v 2 (zc8 l) l.length
def OwnZ (w : World) (B : Nat) (v : Value) (l : List Pz) : Prop := w.ownsRow B 189 2 v l.length (arr (l.length * 2) (zc8 l)).toList
theorem OwnZ.row {w : World} {B : Nat} {v : Value} {l : List Pz} (h : OwnZ w B v l) : RowZ w v l := owns_row h
theorem OwnZ.nil (w : World) (B : Nat) : OwnZ w B (.slice none 0 0) [] := World.ownsRow_nil _ _ _ _
theorem OwnZ.all {w w' : World} {B : Nat} {v : Value} {l : List Pz} (h : OwnZ w B v l) (hb : Below w.heap.size w w') : OwnZ w' B v l := owns_all h hb
theorem OwnZ.mono {w : World} {B B' : Nat} {v : Value} {l : List Pz} (h : OwnZ w B v l) (hB : B' ≤ B) : OwnZ w B' v l :=
  ⟨h.1, h.2.imp id fun ⟨g, cap, cur, a, c, d⟩ => ⟨g, cap, cur, a, Nat.le_trans hB c, d⟩⟩
theorem OwnZ.drew {w : World} {B : Nat} {v : Value} {l : List Pz} (h : OwnZ w B v l) : OwnZ w.drew B v l := h
theorem RowZ.cells {w : World} {v : Value} {l : List Pz} (h : RowZ w v l) : ∃ ad cap, v = .slice ad l.length cap ∧ ∀ k, k < l.length → ∃ b o, ad = some ⟨b, o, none⟩ ∧ b < w.heap.size ∧ w.cell? ⟨b, o + k * 2, none⟩ = some (cpv (l.getD k zz)) ∧ w.cell? ⟨b, o + k * 2 + 1, none⟩ = some (.string (bs (l.getD k zz).t)) := by
  obtain ⟨ad, cap, rfl, ha⟩ := row_addr h
  refine ⟨ad, cap, rfl, fun k hk => ?_⟩
  obtain ⟨b, o, rfl, hb, hA⟩ := ha (by omega)
  refine ⟨b, o, rfl, hb, ?_, ?_⟩
  · rw [hA (k * 2) (by omega), zc_0]
  · rw [Nat.add_assoc, hA (k * 2 + 1) (by omega), zc_1]
theorem tPs : Tryz.prog.underlying 159 = some (.slice 189) := by kernel_rfl
theorem iP : (Tryz.prog.info? 189).map (fun i => (i.zero, i.size, i.bytes)) = some (some (.agg #[.complex .f64 0 0, .string ⟨#[]⟩]), 2, 32) := by kernel_rfl
theorem app_z {B : Nat} {w : World} {v : Value} {l : List Pz} (x : Pz) (h : OwnZ w B v l) (hB : B ≤ w.heap.size) (hn : l.length + 1 ≤ 100000) :
    ∃ g cap w', (Builtin.append_ #[159, 159] 159 #[v, .slice (some ⟨w.heap.size, 0, none⟩) 1 1]).run Tryz.prog (w.alloc (.cells #[cpv x, .string (bs x.t)] 189)) = .ok (.slice (some ⟨g, 0, none⟩) (l.length + 1) cap) w' ∧
      OwnZ w' B (.slice (some ⟨g, 0, none⟩) (l.length + 1) cap) (l ++ [x]) ∧ Below B w w' := by
  have h2 : w.ownsRow B 189 2 v l.length (arr (l.length * 2) (zc8 (l ++ [x]))).toList := by
    have e : arr (l.length * 2) (zc8 l) = arr (l.length * 2) (zc8 (l ++ [x])) := arr_congr fun i hi => (zc_snoc l x i hi).symm
    rw [← e]
    exact h
  obtain ⟨g, cap, w', hr, ho, hk, hat⟩ := app_own tPs iP rfl (by decide) (by decide) #[cpv x, .string (bs x.t)] (zc_last l x) (zc_one8 _) h2 hB hn
  refine ⟨g, cap, w', hr, ?_, hk.os, hk.tape, hk.output, hk.size, fun k hkB => hk.block k (fun e => ?_) (by omega)⟩
  · unfold OwnZ
    rw [List.length_append, List.length_singleton]
    exact ho
  · have := own_lt h e
    omega
end Go.Proofs.YtnmjcpoobabjgaaGreatDoor
/- A copy made; bytes added behind pieces. -/
namespace Go.Proofs.YtnmjcpoobabjgaaGreatDoor
set_option maxRecDepth 100000
open Go.RowKit
attribute [local go_sem] run_store_complex
set_option maxHeartbeats 400000 in
theorem copyof_any (p n : Nat) (w : World) : Calls Tryz.prog 144 #[.int .i64 (p : Int), .int .i64 (n : Int)] w fun e w' => e = .returned (pv ⟨p, n, []⟩) ∧ Below w.heap.size w w' := by
  have f1 : floatOfInt .f64 (p : Int) = FB (p : Int) := rfl
  have f2 : floatOfInt .f64 (n : Int) = FB (n : Int) := rfl
  have e0 : bs [] = ⟨#[]⟩ := rfl
  unfold pv cpv
  dsimp only
  rw [e0]
  generalize FB (p : Int) = a at *
  generalize FB (n : Int) = b at *
  go_enter Tryz.func144, Tryz.ntmps144
  go_wp2
  exact bodyPost_ret (v := .agg #[.complex .f64 a b, .string ⟨#[]⟩]) (results_cell_row rfl _ _ _ _ _ _ _ rfl (heap_alloc_new _ _) Tryz.underlying189 rfl (by kernel_rfl)) rfl ⟨rfl, (Below.refl _ _).alloc (Nat.le_refl _) _⟩
end Go.Proofs.YtnmjcpoobabjgaaGreatDoor
/- What a delta's bytes say: as they are read piece by piece, with wide bounds or narrow ones. -/
namespace Go.Proofs.YtnmjcpoobabjgaaGreatDoor
open Go.RowKit
theorem rd_most {m M : Int} (h : m ≤ M) : ∀ (l : List UInt8) (k acc : Nat), rd m l k acc = if (rd M l k acc).2.2 = 0 ∧ m < ((rd M l k acc).1 : Int) then (0, 0, 4) else rd M l k acc := by
 intro l
 induction l with
 | nil => intro k acc; unfold rd; split <;> simp
 | cons b t ih =>
  intro k acc
  unfold rd
  split
  ·simp
  ·split
   ·exact ih _ _
   ·split
    ·simp
    ·by_cases c : 1099511627775 < acc + b.toNat % 128 * 128 ^ k ∨ M < ((acc + b.toNat % 128 * 128 ^ k : Nat) : Int)
     ·have c2 : 1099511627775 < acc + b.toNat % 128 * 128 ^ k ∨ m < ((acc + b.toNat % 128 * 128 ^ k : Nat) : Int) := by omega
      rw [if_pos c, if_pos c2]
      simp
     ·rw [if_neg c]
      by_cases c3 : m < ((acc + b.toNat % 128 * 128 ^ k : Nat) : Int)
      ·rw [if_pos (Or.inr c3), if_pos ⟨rfl, c3⟩]
      ·rw [if_neg (by omega), if_neg (fun h => c3 h.2)]
theorem num_most8 {m M : Int} (h : m ≤ M) (l : List UInt8) (p : Nat) : rNum m l p 0 = if (rNum M l p 0).2.2 = 0 ∧ m < ((rNum M l p 0).1 : Int) then (0, p, 4) else rNum M l p 0 := by
 unfold rNum
 rw [rd_most h]
 generalize rd M (l.drop p) 0 0 = A
 by_cases c : A.2.2 = 0
 ·by_cases c2 : m < (A.1 : Int) <;> simp [c, c2]
 ·simp [c]
theorem num_value (m : Int) (l : List UInt8) (p : Nat) (h0 : 0 ≤ m) : ((rNum m l p 0).1 : Int) ≤ m ∧ (rNum m l p 0).1 ≤ 1099511627775 := by
 unfold rNum
 rw [if_neg (by simp)]
 by_cases c : (rd m (l.drop p) 0 0).2.2 = 0
 ·rw [if_neg (by simp [c])]
  obtain ⟨_, _, _, _, _, h4, h5, _⟩ := rd_one m (l.drop p) 0 0 (rd m (l.drop p) 0 0).1 (rd m (l.drop p) 0 0).2.1 (by rw [← c])
  exact ⟨h5, h4⟩
 ·rw [if_pos c]
  exact ⟨h0, by simp⟩
theorem num_moves {m : Int} {l : List UInt8} {p : Nat} (h : (rNum m l p 0).2.2 = 0) : p < (rNum m l p 0).2.1 := by
 revert h
 unfold rNum
 rw [if_neg (by simp)]
 by_cases c : (rd m (l.drop p) 0 0).2.2 = 0
 ·rw [if_neg (by simp [c])]
  intro _
  obtain ⟨q, _, _, _, h3, _, _, _⟩ := rd_one m (l.drop p) 0 0 (rd m (l.drop p) 0 0).1 (rd m (l.drop p) 0 0).2.1 (by rw [← c])
  have := dg_pos q
  show p < p + _
  omega
 ·rw [if_pos c]
  intro h; exact absurd h c
theorem raw_size (n : Nat) (l : List UInt8) (p : Nat) (h : (rRaw n l p 0).2.2 = 0) : (rRaw n l p 0).1.length = n ∧ (rRaw n l p 0).2.1 = p + n := by
 revert h
 unfold rRaw
 rw [if_neg (by simp), if_neg (by omega)]
 split
 ·intro h; simp at h
 ·intro _
  refine ⟨?_, rfl⟩
  show ((l.drop p).take ((n : Int)).toNat).length = n
  rw [List.length_take, List.length_drop]; omega
/- a piece read: the piece, the place, the error; m1 bounds its head, m2 its place -/
def rpz (m1 m2 : Int) (d : List UInt8) (p : Nat) (e : Int) : Pz × Nat × Int :=
 if (rNum m1 d p e).1 % 2 = 0 then (⟨0, 0, (rRaw ((rNum m1 d p e).1 / 2 : Nat) d (rNum m1 d p e).2.1 (rNum m1 d p e).2.2).1⟩, (rRaw ((rNum m1 d p e).1 / 2 : Nat) d (rNum m1 d p e).2.1 (rNum m1 d p e).2.2).2)
 else (⟨(rNum m2 d (rNum m1 d p e).2.1 (rNum m1 d p e).2.2).1, (rNum m1 d p e).1 / 2, []⟩, (rNum m2 d (rNum m1 d p e).2.1 (rNum m1 d p e).2.2).2)
theorem rpz_five (m1 m2 : Int) (d : List UInt8) (p : Nat) (e : Int) (h : e ≠ 5) : (rpz m1 m2 d p e).2.2 ≠ 5 := by
 unfold rpz
 split
 ·exact raw_five _ _ _ _ (num_five _ _ _ _ h)
 ·exact num_five _ _ _ _ (num_five _ _ _ _ h)
theorem rpz_le (m1 m2 : Int) (d : List UInt8) (p : Nat) (e : Int) (h : p ≤ d.length) : (rpz m1 m2 d p e).2.1 ≤ d.length := by
 unfold rpz
 split
 ·exact rRaw_le _ _ _ _ (rNum_le _ _ _ _ h)
 ·exact rNum_le _ _ _ _ (rNum_le _ _ _ _ h)
theorem rpz_moves {m1 m2 : Int} {d : List UInt8} {p : Nat} (h : (rpz m1 m2 d p 0).2.2 = 0) : p < (rpz m1 m2 d p 0).2.1 := by
 revert h
 unfold rpz
 by_cases e : (rNum m1 d p 0).2.2 = 0
 ·have h1 := num_moves e
  rw [e]
  split
  ·intro h
   have := (raw_size _ _ _ h).2
   show p < (rRaw _ _ _ _).2.1
   omega
  ·intro h
   have := num_moves h
   show p < (rNum _ _ _ _).2.1
   omega
 ·split
  ·rw [raw_err e]; intro h; exact absurd h e
  ·rw [num_err e]; intro h; exact absurd h e
def big : Int := 1099511627775
/- narrow bounds come to the same as wide ones, or what is read wide isn't right -/
theorem rpz_small {b : Nat} (hb : b ≤ 4099) (d : List UInt8) (p : Nat) : ((rpz 8199 4099 d p 0).2.2 = 0 → rpz big big d p 0 = rpz 8199 4099 d p 0) ∧ ((rpz 8199 4099 d p 0).2.2 ≠ 0 → (rpz big big d p 0).2.2 = 0 → ¬ good b (rpz big big d p 0).1) := by
 have h1 := num_most8 (m := 8199) (M := big) (by decide) d p
 by_cases e1 : (rNum big d p 0).2.2 = 0
 ·by_cases k1 : (8199 : Int) < ((rNum big d p 0).1 : Int)
  ·rw [if_pos ⟨e1, k1⟩] at h1
   have hx : rpz 8199 4099 d p 0 = (⟨0, 0, []⟩, p, 4) := by
    unfold rpz
    rw [h1]
    simp [rRaw]
   rw [hx]
   refine ⟨fun h => by simp at h, fun _ => ?_⟩
   unfold rpz
   rw [e1]
   by_cases k2 : (rNum big d p 0).1 % 2 = 0
   ·rw [if_pos k2]
    intro h
    have := (raw_size _ _ _ h).1
    unfold good
    rw [if_pos ⟨rfl, rfl⟩]
    intro hg
    have hg2 : (rRaw ((rNum big d p 0).1 / 2 : Nat) d (rNum big d p 0).2.1 0).1.length ≤ 4099 := hg.2
    omega
   ·rw [if_neg k2]
    intro _
    unfold good
    rw [if_neg (fun h => by have h2 : (rNum big d p 0).1 / 2 = 0 := h.2; omega)]
    intro hg
    have hg2 : (rNum big d p 0).1 / 2 ≤ 4099 := hg.2.2.1
    omega
  ·rw [if_neg (fun h => k1 h.2)] at h1
   by_cases k2 : (rNum big d p 0).1 % 2 = 0
   ·have hx : rpz big big d p 0 = rpz 8199 4099 d p 0 := by
     unfold rpz
     rw [h1, if_pos k2, if_pos k2]
    rw [hx]
    exact ⟨fun _ => rfl, fun h h2 => absurd h2 h⟩
   ·have h2 := num_most8 (m := 4099) (M := big) (by decide) d (rNum big d p 0).2.1
    unfold rpz
    rw [h1, if_neg k2, if_neg k2, e1]
    by_cases c : (rNum big d (rNum big d p 0).2.1 0).2.2 = 0 ∧ (4099 : Int) < ((rNum big d (rNum big d p 0).2.1 0).1 : Int)
    ·rw [if_pos c] at h2
     rw [h2]
     refine ⟨fun h => by simp at h, fun _ _ => ?_⟩
     have c2 := c.2
     unfold good
     rw [if_neg (fun h => by have h3 : (rNum big d (rNum big d p 0).2.1 0).1 = 0 := h.1; omega)]
     intro hg
     have hg2 : (rNum big d (rNum big d p 0).2.1 0).1 + (rNum big d p 0).1 / 2 ≤ b := hg.2.2.2
     omega
    ·rw [if_neg c] at h2
     rw [h2]
     exact ⟨fun _ => rfl, fun h h3 => absurd h3 h⟩
 ·rw [if_neg (fun h => e1 h.1)] at h1
  have hx : ∀ m, (rpz big m d p 0).2.2 ≠ 0 := by
   intro m
   unfold rpz
   split
   ·rw [raw_err e1]; exact e1
   ·rw [num_err e1]; exact e1
  have hy : rpz 8199 4099 d p 0 = rpz big 4099 d p 0 := by unfold rpz; rw [h1]
  rw [hy]
  exact ⟨fun h => absurd h (hx _), fun _ h => absurd h (hx _)⟩
/- the pieces that the bytes from a place on say, for a base of b bytes and a text of 'left' ones -/
def prs (b : Nat) (d : List UInt8) (p left : Nat) : Option (List Pz) :=
 if _h : p < d.length then
  if _h2 : (rpz big big d p 0).2.2 = 0 ∧ good b (rpz big big d p 0).1 ∧ sz (rpz big big d p 0).1 ≤ left ∧ p < (rpz big big d p 0).2.1 then
   (prs b d (rpz big big d p 0).2.1 (left - sz (rpz big big d p 0).1)).map ((rpz big big d p 0).1 :: ·)
  else none
 else if left = 0 then some [] else none
termination_by d.length - p
decreasing_by omega
theorem prs_end {b : Nat} {d : List UInt8} {p left : Nat} (h : d.length ≤ p) : prs b d p left = if left = 0 then some [] else none := by
 rw [prs, dif_neg (by omega)]
theorem prs_bad {b : Nat} {d : List UInt8} {p left : Nat} (h : p < d.length) (hb : ¬ ((rpz big big d p 0).2.2 = 0 ∧ good b (rpz big big d p 0).1 ∧ sz (rpz big big d p 0).1 ≤ left)) : prs b d p left = none := by
 rw [prs, dif_pos h, dif_neg (fun h => hb ⟨h.1, h.2.1, h.2.2.1⟩)]
theorem prs_more {b : Nat} {d : List UInt8} {p left : Nat} (h : p < d.length) (h0 : (rpz big big d p 0).2.2 = 0) (hg : good b (rpz big big d p 0).1) (hl : sz (rpz big big d p 0).1 ≤ left) :
  prs b d p left = (prs b d (rpz big big d p 0).2.1 (left - sz (rpz big big d p 0).1)).map ((rpz big big d p 0).1 :: ·) := by
 rw [prs, dif_pos h, dif_pos ⟨h0, hg, hl, rpz_moves h0⟩]
theorem prs_good {b : Nat} {d : List UInt8} : ∀ (k p left : Nat) (l : List Pz), d.length - p ≤ k → prs b d p left = some l → (∀ x ∈ l, good b x) ∧ szs l = left := by
 intro k
 induction k with
 | zero =>
  intro p left l hk h
  rw [prs_end (by omega)] at h
  split at h
  ·rename_i h0
   cases h
   exact ⟨fun x hx => by simp at hx, by rw [h0]; rfl⟩
  ·cases h
 | succ k ih =>
  intro p left l hk h
  by_cases hp : p < d.length
  ·by_cases hb : (rpz big big d p 0).2.2 = 0 ∧ good b (rpz big big d p 0).1 ∧ sz (rpz big big d p 0).1 ≤ left
   ·rw [prs_more hp hb.1 hb.2.1 hb.2.2] at h
    have hm := rpz_moves hb.1
    cases hq : prs b d (rpz big big d p 0).2.1 (left - sz (rpz big big d p 0).1) with
    | none => rw [hq] at h; cases h
    | some m =>
     rw [hq] at h
     cases h
     obtain ⟨i1, i2⟩ := ih _ _ m (by omega) hq
     refine ⟨fun x hx => ?_, ?_⟩
     ·rcases List.mem_cons.1 hx with rfl | hx
      ·exact hb.2.1
      ·exact i1 x hx
     ·rw [szs_cons, i2]; omega
   ·rw [prs_bad hp hb] at h; cases h
  ·rw [prs_end (by omega)] at h
   split at h
   ·rename_i h0
    cases h
    exact ⟨fun x hx => by simp at hx, by rw [h0]; rfl⟩
   ·cases h
/- where the program stands: l is read, 'left' bytes are left -/
def IP (R : Option (List Pz)) (b : Nat) (d : List UInt8) (l : List Pz) (p : Nat) (e : Int) (left : Nat) : Prop := if e = 0 then R = (prs b d p left).map (l ++ ·) else R = none
theorem IP.start (b : Nat) (d : List UInt8) (p left : Nat) : IP (prs b d p left) b d [] p 0 left := by
 unfold IP
 rw [if_pos rfl]
 cases prs b d p left <;> simp
theorem map_snoc (o : Option (List Pz)) (l : List Pz) (x : Pz) : (o.map (x :: ·)).map (l ++ ·) = o.map ((l ++ [x]) ++ ·) := by
 cases o <;> simp
theorem IP.step {R : Option (List Pz)} {b : Nat} {d : List UInt8} {l : List Pz} {p left p' : Nat} {e' : Int} {x : Pz} (h : IP R b d l p 0 left) (hp : p < d.length) (hx : rpz big big d p 0 = (x, p', e')) (hg : good b x) (hl : sz x ≤ left) : IP R b d (l ++ [x]) p' e' (left - sz x) := by
 unfold IP at h ⊢
 rw [if_pos rfl] at h
 by_cases he : e' = 0
 ·rw [if_pos he, h, prs_more hp (by rw [hx]; exact he) (by rw [hx]; exact hg) (by rw [hx]; exact hl), hx, map_snoc]
 ·rw [if_neg he, h, prs_bad hp (by rw [hx]; exact fun h => he h.1)]; rfl
theorem IP.bad {R : Option (List Pz)} {b : Nat} {d : List UInt8} {l : List Pz} {p left p' : Nat} {e' : Int} {x : Pz} (h : IP R b d l p 0 left) (hp : p < d.length) (hx : rpz big big d p 0 = (x, p', e')) (hn : ¬ (good b x ∧ sz x ≤ left)) : R = none := by
 unfold IP at h
 rw [if_pos rfl] at h
 rw [h, prs_bad hp (by rw [hx]; exact fun h => hn h.2)]; rfl
theorem IP.fin {R : Option (List Pz)} {b : Nat} {d : List UInt8} {l : List Pz} {p left : Nat} (h : IP R b d l p 0 left) (hp : d.length ≤ p) : R = if left = 0 then some l else none := by
 unfold IP at h
 rw [if_pos rfl] at h
 rw [h, prs_end hp]
 split <;> simp
theorem IP.err {R : Option (List Pz)} {b : Nat} {d : List UInt8} {l : List Pz} {p left : Nat} {e : Int} (h : IP R b d l p e left) (he : e ≠ 0) : R = none := by
 unfold IP at h
 rw [if_neg he] at h
 exact h
/- where the reference stands: l is read, right or not -/
def IQ (R : Option (List Pz)) (b : Nat) (d : List UInt8) (many : Nat) (l : List Pz) (p : Nat) (e : Int) : Prop :=
 if e = 0 then R = (if (∀ x ∈ l, good b x) ∧ szs l ≤ many then (prs b d p (many - szs l)).map (l ++ ·) else none) else R = none
theorem IQ.start (b : Nat) (d : List UInt8) (p many : Nat) : IQ (prs b d p many) b d many [] p 0 := by
 unfold IQ
 rw [if_pos rfl, if_pos ⟨fun x hx => by simp at hx, by simp [szs]⟩]
 show _ = (prs b d p (many - 0)).map _
 rw [Nat.sub_zero]
 cases prs b d p many <;> simp
theorem IQ.step {R : Option (List Pz)} {b many : Nat} {d : List UInt8} {l : List Pz} {p p' : Nat} {e' : Int} {x : Pz} (hb : b ≤ 4099) (h : IQ R b d many l p 0) (hp : p < d.length) (hx : rpz 8199 4099 d p 0 = (x, p', e')) : IQ R b d many (l ++ [x]) p' e' := by
 obtain ⟨s1, s2⟩ := rpz_small hb d p
 rw [hx] at s1 s2
 unfold IQ at h ⊢
 rw [if_pos rfl] at h
 by_cases he : e' = 0
 ·have s3 := s1 he
  rw [if_pos he, h]
  by_cases c : (∀ y ∈ l ++ [x], good b y) ∧ szs (l ++ [x]) ≤ many
  ·have c1 : (∀ y ∈ l, good b y) ∧ szs l ≤ many := ⟨fun y hy => c.1 y (by simp [hy]), by have := c.2; rw [szs_snoc] at this; omega⟩
   have c2 : good b x := c.1 x (by simp)
   have c3 := c.2
   rw [szs_snoc] at c3
   rw [if_pos c1, if_pos c, prs_more hp (by rw [s3]; exact he) (by rw [s3]; exact c2) (by rw [s3]; show sz x ≤ _; omega), s3, map_snoc, szs_snoc, Nat.sub_sub]
  ·rw [if_neg c]
   by_cases c1 : (∀ y ∈ l, good b y) ∧ szs l ≤ many
   ·rw [if_pos c1, prs_bad hp]
    ·rfl
    ·rw [s3]
     rintro ⟨-, g1, g2⟩
     apply c
     refine ⟨fun y hy => ?_, ?_⟩
     ·rcases List.mem_append.1 hy with hy | hy
      ·exact c1.1 y hy
      ·simp only [List.mem_singleton] at hy
       subst hy; exact g1
     ·rw [szs_snoc]
      have g3 : sz x ≤ many - szs l := g2
      have := c1.2
      omega
   ·rw [if_neg c1]
 ·rw [if_neg he, h]
  by_cases c1 : (∀ y ∈ l, good b y) ∧ szs l ≤ many
  ·rw [if_pos c1, prs_bad hp]
   ·rfl
   ·rintro ⟨g0, g1, -⟩
    exact s2 he g0 g1
  ·rw [if_neg c1]
theorem IQ.fin {R : Option (List Pz)} {b many : Nat} {d : List UInt8} {l : List Pz} {p : Nat} {e : Int} (h : IQ R b d many l p e) (hp : ¬ (e = 0 ∧ p < d.length)) : R = if e = 0 ∧ (∀ x ∈ l, good b x) ∧ szs l = many then some l else none := by
 unfold IQ at h
 by_cases he : e = 0
 ·rw [if_pos he] at h
  rw [h, prs_end (by omega)]
  by_cases c : (∀ x ∈ l, good b x) ∧ szs l = many
  ·rw [if_pos ⟨c.1, by omega⟩, if_pos (by omega), if_pos ⟨he, c⟩]; simp
  ·rw [if_neg (show ¬ (e = 0 ∧ _) from fun h => c h.2)]
   split
   ·rename_i c1
    rw [if_neg (fun h0 => c ⟨c1.1, by omega⟩)]; rfl
   ·rfl
 ·rw [if_neg he] at h
  rw [if_neg (fun h => he h.1)]
  exact h
/- all of it -/
def dRead (d : List UInt8) : Option (Nat × List Pz) :=
 if (rNum 4099 d (rNum 4099 d 0 0).2.1 (rNum 4099 d 0 0).2.2).2.2 = 0 then
  (prs (rNum 4099 d 0 0).1 d (rNum 4099 d (rNum 4099 d 0 0).2.1 (rNum 4099 d 0 0).2.2).2.1 (rNum 4099 d (rNum 4099 d 0 0).2.1 (rNum 4099 d 0 0).2.2).1).map (fun l => ((rNum 4099 d 0 0).1, l))
 else none
theorem dRead_good {d : List UInt8} {b : Nat} {l : List Pz} (h : dRead d = some (b, l)) : b ≤ 4099 ∧ (∀ x ∈ l, good b x) ∧ szs l ≤ 4099 := by
 unfold dRead at h
 split at h
 ·rename_i h0
  have e1 : (rNum 4099 d 0 0).2.2 = 0 := by
   by_cases c : (rNum 4099 d 0 0).2.2 = 0
   ·exact c
   ·rw [num_err c] at h0; exact absurd h0 c
  have v1 := (num_value 4099 d 0 (by decide)).1
  have v2 := (num_value 4099 d (rNum 4099 d 0 0).2.1 (by decide)).1
  rw [e1] at h
  generalize rNum 4099 d 0 0 = A at *
  generalize rNum 4099 d A.2.1 0 = C at *
  cases hq : prs A.1 d C.2.1 C.1 with
  | none => rw [hq] at h; cases h
  | some m =>
   rw [hq] at h
   simp only [Option.map_some, Option.some.injEq, Prod.mk.injEq] at h
   obtain ⟨rfl, rfl⟩ := h
   obtain ⟨g1, g2⟩ := prs_good _ _ _ _ (Nat.le_refl _) hq
   exact ⟨by omega, g1, by omega⟩
 ·cases h
/- what was written is read -/
end Go.Proofs.YtnmjcpoobabjgaaGreatDoor
