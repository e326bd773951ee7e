import Derived.Test.YtekeaoolodmdaaaV4
import Derived.ScopeJumps
import Derived.WalkMore
/- How a number is read: the run with its two labels. -/
namespace Go.Proofs.Ytekeaoolodmdaaa
open Go.RowKit
/- as Q; by a goto to a label l: J l -/
def exitJumps (J : Nat → Act → World → Prop) (Q : Exit → Act → World → Prop) : Exit → Act → World → Prop
  | .goto l, a, w => J l a w
  | e, a, w => Q e a w
/- a scope with labels, to which the run jumps forward and back: what holds at every jump, and a measure that every jump lowers -/
theorem wp_scope_labels {P : Program} {a : Act} {w : World} {Q : Exit → Act → World → Prop} {c : Code} (J : Nat → Act → World → Prop) (m : Nat → Act → World → Nat)
    (first : c.wp P (exitJumps J Q) a w)
    (pass : ∀ l a w, J l a w → ∃ rest, findLabel c l = some rest ∧ rest.wp P (exitJumps (fun l' a' w' => J l' a' w' ∧ m l' a' w' < m l a w) Q) a w) : (Code.scope c).wp P Q a w := by
  intro b k cs
  have key : ∀ n l rest a w, findLabel c l = some rest → m l a w = n → J l a w → ∃ e a' w', Q e a' w' ∧ Arrives P (lone (b.at a (.code rest :: .inScope c :: k)) cs w) b k cs e a' w' := by
    intro n
    induction n using Nat.strongRecOn with
    | _ n ih =>
      intro l rest a w hf hn hJ
      obtain ⟨rest', hf', hp⟩ := pass l a w hJ
      rw [hf] at hf'
      cases hf'
      obtain ⟨e, a1, w1, hq, harr⟩ := hp b (.inScope c :: k) cs
      cases e with
      | normal => exact ⟨.normal, a1, w1, hq, Steps.trans harr (.one step_inScope)⟩
      | exit id => exact ⟨.exit id, a1, w1, hq, fun k' hk => harr k' (by simp [exitTo, hk])⟩
      | goto l' =>
        obtain ⟨hJ', hlt⟩ := hq
        obtain ⟨rest2, hf2, _⟩ := pass l' a1 w1 hJ'
        obtain ⟨e2, a2, w2, hq2, harr2⟩ := ih _ (by omega) l' rest2 a1 w1 hf2 rfl hJ'
        exact ⟨e2, a2, w2, hq2, .of_steps (harr _ (by simp [gotoIn, hf2])) harr2⟩
      | ret => exact ⟨_, a1, w1, hq, harr⟩
      | panic ch => exact ⟨_, a1, w1, hq, harr⟩
      | outgrown => exact ⟨_, a1, w1, hq, harr⟩
  obtain ⟨e, a1, w1, hq, harr⟩ := first b (.inScope c :: k) cs
  cases e with
  | normal => exact ⟨.normal, a1, w1, hq, .head step_scope (Steps.trans harr (.one step_inScope))⟩
  | exit id => exact ⟨.exit id, a1, w1, hq, fun k' hk => .head step_scope (harr k' (by simp [exitTo, hk]))⟩
  | goto l' =>
    obtain ⟨rest2, hf2, _⟩ := pass l' a1 w1 hq
    obtain ⟨e2, a2, w2, hq2, harr2⟩ := key _ l' rest2 a1 w1 hf2 rfl hq
    exact ⟨e2, a2, w2, hq2, .of_steps (.head step_scope (harr _ (by simp [gotoIn, hf2]))) harr2⟩
  | ret => exact ⟨_, a1, w1, hq, .of_steps (.one step_scope) harr⟩
  | panic ch => exact ⟨_, a1, w1, hq, .of_steps (.one step_scope) harr⟩
  | outgrown => exact ⟨_, a1, w1, hq, .of_steps (.one step_scope) harr⟩
/- the same with two labels, 0 and 1, where the run first comes to label 1 -/
theorem wp_scope_two {P : Program} {a : Act} {w : World} {Q : Exit → Act → World → Prop} {c X X0 : Code} (J : Nat → Act → World → Prop) (m : Nat → Act → World → Nat) (hX : findLabel c 1 = some (.seq .skip X)) (hX0 : findLabel c 0 = some (.seq .skip X0)) (hJ : ∀ l a w, J l a w → l = 0 ∨ l = 1)
    (first : ∀ R : Exit → Act → World → Prop, (∀ a w, J 1 a w → X.wp P R a w) → c.wp P R a w)
    (p0 : ∀ a w, J 0 a w → X0.wp P (exitJumps (fun l' a' w' => J l' a' w' ∧ m l' a' w' < m 0 a w) Q) a w)
    (p1 : ∀ a w, J 1 a w → X.wp P (exitJumps (fun l' a' w' => J l' a' w' ∧ m l' a' w' < m 1 a w) Q) a w) : (Code.scope c).wp P Q a w := by
  refine wp_scope_labels J m (first _ fun a w h b k cs => ?_) fun l a w h => ?_
  · obtain ⟨e, a1, w1, hq, harr⟩ := p1 a w h b k cs
    refine ⟨e, a1, w1, ?_, harr⟩
    cases e with
    | goto l => exact hq.1
    | normal => exact hq
    | exit id => exact hq
    | ret => exact hq
    | panic ch => exact hq
    | outgrown => exact hq
  · rcases hJ l a w h with rfl | rfl
    · exact ⟨_, hX0, wp_seq (wp_skip (p0 a w h))⟩
    · exact ⟨_, hX, wp_seq (wp_skip (p1 a w h))⟩
/- what holds at a jump: to 0, all is wrong; to 1, k digits are behind, their sum acc -/
def NumJ (sb : ByteArray) (l : List UInt8) (most : Int) (w : World) (lab : Nat) (a : Act) (w' : World) : Prop :=
  w = w' ∧
  ((lab = 0 ∧ ∃ (e : Int) (u4 u5 u7 u8 u9 u10 u11 u12 u13 u14 u15 u16 u17 u18 u19 u20 u21 u22 u23 u24 u25 u26 u27 u28 u29 u30 u31 u32 u33 u34 u35 u36 u37 u38 u39 u40 u41 u42 u43 u44 : Value), a = { tmps := #[.string sb, .int .i64 most, undef, undef, u4, u5, .int .i64 e, u7, u8, u9, u10, u11, u12, u13, u14, u15, u16, u17, u18, u19, u20, u21, u22, u23, u24, u25, u26, u27, u28, u29, u30, u31, u32, u33, u34, u35, u36, u37, u38, u39, u40, u41, u42, u43, u44], defers := [] } ∧ rd most l 0 0 = (0, 0, e)) ∨
   (lab = 1 ∧ ∃ (k acc : Nat) (u7 u8 u9 u10 u11 u12 u13 u14 u15 u16 u17 u18 u19 u20 u21 u22 u23 u24 u25 u26 u27 u28 u29 u30 u31 u32 u33 u34 u35 u36 u37 u38 u39 u40 u41 u42 u43 u44 : Value), a = { tmps := #[.string sb, .int .i64 most, undef, undef, .int .i64 acc, .int .i64 k, .int .i64 0, u7, u8, u9, u10, u11, u12, u13, u14, u15, u16, u17, u18, u19, u20, u21, u22, u23, u24, u25, u26, u27, u28, u29, u30, u31, u32, u33, u34, u35, u36, u37, u38, u39, u40, u41, u42, u43, u44], defers := [] } ∧ k ≤ 6 ∧ k ≤ l.length ∧ acc < 128 ^ k ∧ rd most l 0 0 = rd most (l.drop k) k acc))
def numM (lab : Nat) (a : Act) (_ : World) : Nat := if lab = 0 then 0 else 7 - (intOf (a.tmps.getD 5 undef)).toNat
/- one byte more -/
theorem drop_next (l : List UInt8) (k : Nat) (h : k < l.length) : l.drop k = l[k] :: l.drop (k + 1) := List.drop_eq_getElem_cons h
def acc2 (acc k : Nat) (b : UInt8) : Nat := acc + b.toNat % 128 * 128 ^ k
theorem acc2_lt (acc k : Nat) (b : UInt8) (h : acc < 128 ^ k) : acc2 acc k b < 128 ^ (k + 1) := by
  unfold acc2
  have h1 : b.toNat % 128 < 128 := Nat.mod_lt _ (by decide)
  have h2 : b.toNat % 128 * 128 ^ k ≤ 127 * 128 ^ k := Nat.mul_le_mul_right _ (by omega)
  rw [Nat.pow_succ]
  omega
theorem pow_six {k : Nat} (h : k ≤ 6) : 128 ^ k ≤ 4398046511104 := by
  have h2 : (128 : Nat) ^ k ≤ 128 ^ 6 := Nat.pow_le_pow_right (by decide) h
  have h3 : (128 : Nat) ^ 6 = 4398046511104 := by decide
  omega
theorem acc2_int (acc k : Nat) (b : UInt8) (h : acc < 128 ^ k) (hk : k ≤ 5) : wrap64 ((acc : Int) + wrap64 ((b.toNat : Int) % 128 * 2 ^ (k * 7))) = ((acc2 acc k b : Nat) : Int) := by
  have h0 := acc2_lt acc k b h
  have h6 := pow_six (show k + 1 ≤ 6 by omega)
  have e1 : ((b.toNat : Int) % 128 * 2 ^ (k * 7)) = ((b.toNat % 128 * 128 ^ k : Nat) : Int) := by
    rw [show (128 : Nat) = 2 ^ 7 by rfl, ← Nat.pow_mul, Nat.mul_comm 7 k]
    simp
  rw [e1]
  unfold acc2 at h0 ⊢
  rw [show wrap64 ((b.toNat % 128 * 128 ^ k : Nat) : Int) = ((b.toNat % 128 * 128 ^ k : Nat) : Int) from by simp only [wrap64]; omega]
  simp only [wrap64]
  omega
set_option maxHeartbeats 1000000 in
set_option maxRecDepth 1000000 in
theorem num_any (l : List UInt8) (most : Int) (w : World) (hl : l.length ≤ 281474976710656) :
    Calls Try.prog 78 #[.string (bs l), .int .i64 most] w fun e w' => e = .returned (.tuple #[.int .i64 (rd most l 0 0).1, .int .i64 (rd most l 0 0).2.1, .int .i64 (rd most l 0 0).2.2]) ∧ w = w' := by
  have hz := bs_size l
  have hat : Hid (∀ k (h1 : k < (bs l).size) (h2 : k < l.length), (bs l)[k]'h1 = l[k]'h2) := fun k h1 h2 => by simp [bs]; rfl
  obtain ⟨sb, hsb⟩ : ∃ sb, sb = bs l := ⟨_, rfl⟩
  rw [← hsb] at hz hat ⊢
  have HZ := Lib.hid hz
  clear hsb hz
  go_enter Try.func78, Try.ntmps78
  go_wp2
  refine wp_scope_two (NumJ sb l most w) numM rfl rfl (fun lab a w' h => h.2.elim (fun h => Or.inl h.1) (fun h => Or.inr h.1)) ?_ ?_ ?_
  · intro R hR
    go_wp2
    go_step3
    rename_i K0 hK0
    exact hK0 _ _ (hR _ _ ⟨rfl, Or.inr ⟨rfl, 0, 0, _, _, _, _, _, _, _, _, _, _, _, _, _, _, _, _, _, _, _, _, _, _, _, _, _, _, _, _, _, _, _, _, _, _, _, _, _, _, rfl, by omega, by omega, by decide, by rw [List.drop_zero]⟩⟩)
  · rintro a w' ⟨rfl, ⟨_, e, u4, u5, u7, u8, u9, u10, u11, u12, u13, u14, u15, u16, u17, u18, u19, u20, u21, u22, u23, u24, u25, u26, u27, u28, u29, u30, u31, u32, u33, u34, u35, u36, u37, u38, u39, u40, u41, u42, u43, u44, ha, hr⟩ | ⟨h01, _⟩⟩
    · dsimp only at ha
      subst ha
      have HR := Lib.hid hr
      clear hr
      go_wp2
      simp only [exitJumps]
      go_ret3
      exact ⟨by rw [HR.out]; rfl, rfl⟩
    · cases h01
  · rintro a w' ⟨rfl, ⟨h01, _⟩ | ⟨_, k, acc, u7, u8, u9, u10, u11, u12, u13, u14, u15, u16, u17, u18, u19, u20, u21, u22, u23, u24, u25, u26, u27, u28, u29, u30, u31, u32, u33, u34, u35, u36, u37, u38, u39, u40, u41, u42, u43, u44, ha, hk6, hkl, hacc, hr⟩⟩
    · cases h01
    · dsimp only at ha
      subst ha
      have HR := Lib.hid hr
      have HA := Lib.hid hacc
      clear hr hacc
      by_cases c6 : k = 6
      · have d6 : ((k : Int) == 6) = true := by simp; omega
        have C6 := Lib.hid c6
        clear c6
        go_wp2
        go_step3
        exact ⟨⟨rfl, Or.inl ⟨rfl, 4, _, _, _, _, _, _, _, _, _, _, _, _, _, _, _, _, _, _, _, _, _, _, _, _, _, _, _, _, _, _, _, _, _, _, _, _, _, _, _, _, rfl, by rw [HR.out, C6.out]; cases l.drop 6 <;> simp [rd]⟩⟩, by show 0 < 7 - (intOf (.int .i64 (k : Int))).toNat; simp [intOf]; omega⟩
      · have d6 : ((k : Int) == 6) = false := by simp; omega
        have C5 : Hid (k ≤ 5) := by show k ≤ 5; omega
        have k5 : k ≤ 5 := C5.out
        clear c6 hk6
        by_cases cl : k = l.length
        · have dl : ((k : Int) == (sb.size : Int)) = true := by rw [HZ.out, cl]; simp
          have CL := Lib.hid cl
          clear cl hkl
          go_wp2
          go_step3
          have := C5.out
          exact ⟨⟨rfl, Or.inl ⟨rfl, 3, _, _, _, _, _, _, _, _, _, _, _, _, _, _, _, _, _, _, _, _, _, _, _, _, _, _, _, _, _, _, _, _, _, _, _, _, _, _, _, _, rfl, by rw [HR.out, show l.drop k = [] from by rw [CL.out, List.drop_length], rd, if_neg (by omega)]⟩⟩, by show 0 < 7 - (intOf (.int .i64 (k : Int))).toNat; simp [intOf]; omega⟩
        · have dl : ((k : Int) == (sb.size : Int)) = false := by rw [HZ.out]; simp; omega
          have dlt : k < sb.size := by rw [HZ.out]; omega
          have hb0 := hat.out k dlt (by omega)
          obtain ⟨b, hb⟩ : ∃ b, sb[k]'dlt = b := ⟨_, rfl⟩
          have hn := drop_next l k (by omega)
          rw [← hb0, hb] at hn
          have A := acc2_int acc k b HA.out C5.out
          have A2 := Lib.hid (acc2_lt acc k b HA.out)
          obtain ⟨q, hq⟩ : ∃ q, q = acc2 acc k b := ⟨_, rfl⟩
          rw [← hq] at A A2
          have HN := Lib.hid hn
          have HQ : Hid (acc + b.toNat % 128 * 128 ^ k = q) := hq.symm
          have HL : Hid (k + 1 ≤ l.length) := by show k + 1 ≤ l.length; omega
          clear hn hb0 hq cl hkl
          by_cases b7 : 128 ≤ b.toNat
          · have t7 : (128 : Int) ≤ (b.toNat : Int) := by omega
            have HB := Lib.hid b7
            clear b7
            go_wp2
            go_step3
            have := C5.out
            exact ⟨⟨rfl, Or.inr ⟨rfl, k + 1, q, _, _, _, _, _, _, _, _, _, _, _, _, _, _, _, _, _, _, _, _, _, _, _, _, _, _, _, _, _, _, _, _, _, _, _, _, _, _, rfl, by omega, HL.out, A2.out, by rw [HR.out, HN.out, rd, if_neg (by omega), if_pos HB.out, HQ.out]⟩⟩, by show 7 - (intOf (.int .i64 ((k : Int) + 1))).toNat < 7 - (intOf (.int .i64 (k : Int))).toNat; simp [intOf]; omega⟩
          · have t7 : decide ((128 : Int) ≤ (b.toNat : Int)) = false := by simp; omega
            have HB := Lib.hid b7
            clear b7
            by_cases b0 : b.toNat = 0 ∧ 0 < k
            · have s0 : ((b.toNat : Int) == 0) = true := by simp; omega
              have s1 : (1 : Int) < (k : Int) + 1 := by omega
              have B0 := Lib.hid b0
              clear b0
              go_wp2
              go_step3
              have := C5.out
              exact ⟨⟨rfl, Or.inl ⟨rfl, 2, _, _, _, _, _, _, _, _, _, _, _, _, _, _, _, _, _, _, _, _, _, _, _, _, _, _, _, _, _, _, _, _, _, _, _, _, _, _, _, _, rfl, by rw [HR.out, HN.out, rd, if_neg (by omega), if_neg HB.out, if_pos B0.out]⟩⟩, by show 0 < 7 - (intOf (.int .i64 (k : Int))).toNat; simp [intOf]; omega⟩
            · have B0 := Lib.hid b0
              by_cases z : b.toNat = 0
              · have s0 : ((b.toNat : Int) == 0) = true := by simp; omega
                have s1 : decide ((1 : Int) < (k : Int) + 1) = false := by simp; omega
                clear b0 z
                by_cases big : 1099511627775 < q
                · have g1 : (1099511627775 : Int) < (q : Int) := by omega
                  have BG := Lib.hid big
                  clear big
                  go_wp2
                  go_step3
                  have := C5.out
                  exact ⟨⟨rfl, Or.inl ⟨rfl, 4, _, _, _, _, _, _, _, _, _, _, _, _, _, _, _, _, _, _, _, _, _, _, _, _, _, _, _, _, _, _, _, _, _, _, _, _, _, _, _, _, rfl, by rw [HR.out, HN.out, rd, if_neg (by omega), if_neg HB.out, if_neg B0.out, if_pos (by rw [HQ.out]; exact Or.inl BG.out)]⟩⟩, by show 0 < 7 - (intOf (.int .i64 (k : Int))).toNat; simp [intOf]; omega⟩
                · have g1 : decide ((1099511627775 : Int) < (q : Int)) = false := by simp; omega
                  have BG := Lib.hid big
                  clear big
                  by_cases gm : most < (q : Int)
                  · have GM := Lib.hid gm
                    go_wp2
                    go_step3
                    have := C5.out
                    exact ⟨⟨rfl, Or.inl ⟨rfl, 4, _, _, _, _, _, _, _, _, _, _, _, _, _, _, _, _, _, _, _, _, _, _, _, _, _, _, _, _, _, _, _, _, _, _, _, _, _, _, _, _, rfl, by rw [HR.out, HN.out, rd, if_neg (by omega), if_neg HB.out, if_neg B0.out, if_pos (by rw [HQ.out]; exact Or.inr GM.out)]⟩⟩, by show 0 < 7 - (intOf (.int .i64 (k : Int))).toNat; simp [intOf]; omega⟩
                  · have g2 : decide (most < (q : Int)) = false := by simp; omega
                    have GM := Lib.hid gm
                    clear gm
                    go_wp2
                    simp only [exitJumps]
                    go_ret3
                    rw [HR.out, HN.out, rd, if_neg (by have := C5.out; omega), if_neg HB.out, if_neg B0.out, HQ.out, if_neg (fun hh => hh.elim BG.out (Int.not_lt.2 GM.out))]
                    exact ⟨rfl, rfl⟩
              · have s0 : ((b.toNat : Int) == 0) = false := by simp; omega
                clear b0 z
                by_cases big : 1099511627775 < q
                · have g1 : (1099511627775 : Int) < (q : Int) := by omega
                  have BG := Lib.hid big
                  clear big
                  go_wp2
                  go_step3
                  have := C5.out
                  exact ⟨⟨rfl, Or.inl ⟨rfl, 4, _, _, _, _, _, _, _, _, _, _, _, _, _, _, _, _, _, _, _, _, _, _, _, _, _, _, _, _, _, _, _, _, _, _, _, _, _, _, _, _, rfl, by rw [HR.out, HN.out, rd, if_neg (by omega), if_neg HB.out, if_neg B0.out, if_pos (by rw [HQ.out]; exact Or.inl BG.out)]⟩⟩, by show 0 < 7 - (intOf (.int .i64 (k : Int))).toNat; simp [intOf]; omega⟩
                · have g1 : decide ((1099511627775 : Int) < (q : Int)) = false := by simp; omega
                  have BG := Lib.hid big
                  clear big
                  by_cases gm : most < (q : Int)
                  · have GM := Lib.hid gm
                    go_wp2
                    go_step3
                    have := C5.out
                    exact ⟨⟨rfl, Or.inl ⟨rfl, 4, _, _, _, _, _, _, _, _, _, _, _, _, _, _, _, _, _, _, _, _, _, _, _, _, _, _, _, _, _, _, _, _, _, _, _, _, _, _, _, _, rfl, by rw [HR.out, HN.out, rd, if_neg (by omega), if_neg HB.out, if_neg B0.out, if_pos (by rw [HQ.out]; exact Or.inr GM.out)]⟩⟩, by show 0 < 7 - (intOf (.int .i64 (k : Int))).toNat; simp [intOf]; omega⟩
                  · have g2 : decide (most < (q : Int)) = false := by simp; omega
                    have GM := Lib.hid gm
                    clear gm
                    go_wp2
                    simp only [exitJumps]
                    go_ret3
                    rw [HR.out, HN.out, rd, if_neg (by have := C5.out; omega), if_neg HB.out, if_neg B0.out, HQ.out, if_neg (fun hh => hh.elim BG.out (Int.not_lt.2 GM.out))]
                    exact ⟨rfl, rfl⟩
end Go.Proofs.Ytekeaoolodmdaaa
/- A number read. -/
namespace Go.Proofs.Ytekeaoolodmdaaa
open Go.RowKit
theorem bs_extract (l : List UInt8) (a b : Nat) : (bs l).extract a b = bs ((l.drop a).take (b - a)) := by
  apply ByteArray.ext
  rw [ByteArray.data_extract]
  show l.toArray.extract a b = ((l.drop a).take (b - a)).toArray
  simp
theorem bs_drop (l : List UInt8) (a : Nat) : (bs l).extract a (bs l).size = bs (l.drop a) := by
  rw [bs_extract, bs_size, List.take_of_length_le (by simp)]
/- a number read: the number, the place, the error -/
def rNum (most : Int) (l : List UInt8) (p : Nat) (e : Int) : Nat × Nat × Int :=
  if e ≠ 0 then (0, p, e) else if (rd most (l.drop p) 0 0).2.2 ≠ 0 then (0, p, (rd most (l.drop p) 0 0).2.2) else ((rd most (l.drop p) 0 0).1, p + (rd most (l.drop p) 0 0).2.1, 0)
theorem rd_size {most : Int} {l : List UInt8} (h : (rd most l 0 0).2.2 = 0) : (rd most l 0 0).2.1 ≤ l.length := by
  obtain ⟨m, rest, h1, h2, h3, h4, h5, h6⟩ := rd_one most l 0 0 (rd most l 0 0).1 (rd most l 0 0).2.1 (by rw [← h])
  rw [h3]
  have := congrArg List.length h1
  rw [List.length_append] at this
  omega
theorem rNum_le (most : Int) (l : List UInt8) (p : Nat) (e : Int) (hp : p ≤ l.length) : (rNum most l p e).2.1 ≤ l.length := by
  unfold rNum
  split
  · exact hp
  · split
    · exact hp
    · rename_i h1 h2
      have h3 := rd_size (Classical.not_not.1 h2)
      rw [List.length_drop] at h3
      show p + _ ≤ _
      omega
theorem keep_ne_at {w : World} {r o : Nat} (v : Value) (q : Nat) : Keep (fun k => k ≠ r) w ((w.drewN q).setCell ⟨r, o, none⟩ v) := ((Keep.refl _ w).drewN q).setCell (fun h => h rfl) v
set_option maxHeartbeats 400000 in
set_option maxRecDepth 100000 in
theorem rnum_any {w : World} {r : Nat} {l p e} (most : Int) (h : Rd w r l p e) (hp : p ≤ l.length) (hl : l.length ≤ 281474976710656) :
    Calls Try.prog 70 #[.pointer (some ⟨r, 0, none⟩), .int .i64 most] w fun v w' => v = .returned (.int .i64 (rNum most l p e).1) ∧ Rd w' r l (rNum most l p e).2.1 (rNum most l p e).2.2 ∧ Keep (fun k => k ≠ r) w w' := by
  have HE := err_any h
  by_cases he : e = 0
  · subst he
    obtain ⟨c0, c1, c2, f1, f2⟩ := h.cells
    have HN : Hid (∀ w' : World, Calls Try.prog 78 #[.string (bs (l.drop p)), .int .i64 most] w' fun e w'' => e = .returned (.tuple #[.int .i64 (rd most (l.drop p) 0 0).1, .int .i64 (rd most (l.drop p) 0 0).2.1, .int .i64 (rd most (l.drop p) 0 0).2.2]) ∧ w' = w'') := fun w' => num_any (l.drop p) most w' (by rw [List.length_drop]; omega)
    have hs := @rd_size most (l.drop p)
    have hlen : (l.drop p).length = l.length - p := List.length_drop
    have hr : rNum most l p 0 = (if (rd most (l.drop p) 0 0).2.2 ≠ 0 then (0, p, (rd most (l.drop p) 0 0).2.2) else ((rd most (l.drop p) 0 0).1, p + (rd most (l.drop p) 0 0).2.1, 0)) := by
      unfold rNum
      rw [if_neg (by simp)]
    have hx := bs_drop l p
    have hz := bs_size l
    have HR : Hid (∀ q, Rd (w.drewN q) r l p 0) := fun q => h.keep ((Keep.refl (fun _ => True) w).drewN q) trivial
    rw [← hx] at HN
    clear hx
    rw [hr]
    clear hr h
    generalize (rd most (l.drop p) 0 0).1 = n at HN hs ⊢
    generalize (rd most (l.drop p) 0 0).2.1 = size at HN hs ⊢
    generalize (rd most (l.drop p) 0 0).2.2 = er at HN hs ⊢
    generalize bs l = sb at c0 HN hz
    have pz : (p : Int) ≤ (sb.size : Int) := by omega
    by_cases hr : er = 0
    · subst hr
      rw [if_neg (by simp)]
      have hs := hs rfl
      rw [hlen] at hs
      have h9 : (p : Int) + (size : Int) ≤ 9223372036854775807 := by omega
      clear hlen hz hp hl
      go_enter Try.func70, Try.ntmps70
      go_wp2_with fail
      refine HE.mono ?_
      rintro v w1 ⟨rfl, rfl⟩
      go_wp2
      go_quiet ((go_at_call 78; exact Calls.quiet_of_same ((HN.out _).mono fun e w' h => ⟨h.1, h.2.symm⟩)))
      go_wp2
      go_ret
      exact ⟨rfl, (HR.out _).setAt (p + size), keep_ne_at _ _⟩
    · rw [if_pos hr]
      have hr2 : (er != 0) = true := by simp [hr]
      clear hs hlen hz hp hl hr
      go_enter Try.func70, Try.ntmps70
      go_wp2_with fail
      refine HE.mono ?_
      rintro v w1 ⟨rfl, rfl⟩
      go_wp2
      go_quiet ((go_at_call 78; exact Calls.quiet_of_same ((HN.out _).mono fun e w' h => ⟨h.1, h.2.symm⟩)))
      go_wp2
      go_ret
      exact ⟨rfl, (HR.out _).setErr er, keep_ne_at _ _⟩
  · have hr : rNum most l p e = (0, p, e) := by unfold rNum; rw [if_pos he]
    have HR : Hid (Rd w r l p e) := h
    rw [hr]
    clear hr h
    go_enter Try.func70, Try.ntmps70
    go_wp2_with fail
    refine HE.mono ?_
    rintro v w1 ⟨rfl, rfl⟩
    go_wp2
    go_ret
    exact ⟨rfl, HR.out, Keep.refl _ _⟩
end Go.Proofs.Ytekeaoolodmdaaa
/- Bytes, texts and ids read. -/
namespace Go.Proofs.Ytekeaoolodmdaaa
open Go.RowKit
/- bytes read: the bytes, the place, the error -/
def rRaw (n : Int) (l : List UInt8) (p : Nat) (e : Int) : List UInt8 × Nat × Int :=
  if e ≠ 0 then ([], p, e) else if n < 0 then ([], p, 2) else if (l.length : Int) - p < n then ([], p, 3) else ((l.drop p).take n.toNat, p + n.toNat, 0)
theorem rRaw_le (n : Int) (l : List UInt8) (p : Nat) (e : Int) (hp : p ≤ l.length) : (rRaw n l p e).2.1 ≤ l.length := by
  unfold rRaw
  split
  · exact hp
  · split
    · exact hp
    · split
      · exact hp
      · show p + n.toNat ≤ l.length
        omega
set_option maxHeartbeats 400000 in
set_option maxRecDepth 100000 in
theorem rraw_any {w : World} {r : Nat} {l p e} (n : Int) (h : Rd w r l p e) (hp : p ≤ l.length) (hl : l.length ≤ 281474976710656) :
    Calls Try.prog 79 #[.pointer (some ⟨r, 0, none⟩), .int .i64 n] w fun v w' => v = .returned (.string (bs (rRaw n l p e).1)) ∧ Rd w' r l (rRaw n l p e).2.1 (rRaw n l p e).2.2 ∧ Keep (fun k => k ≠ r) w w' := by
  have HE := err_any h
  have HR : Hid (∀ q, Rd (w.drewN q) r l p e) := fun q => h.keep ((Keep.refl (fun _ => True) w).drewN q) trivial
  by_cases he : e = 0
  · subst he
    obtain ⟨c0, c1, c2, f1, f2⟩ := h.cells
    have hz := bs_size l
    by_cases hn : n < 0
    · have hr : rRaw n l p 0 = ([], p, 2) := by unfold rRaw; rw [if_neg (by simp), if_pos hn]
      rw [hr]
      clear hr h hz hp hl
      go_enter Try.func79, Try.ntmps79
      go_wp2_with fail
      refine HE.mono ?_
      rintro v w1 ⟨rfl, rfl⟩
      go_wp2
      go_ret
      exact ⟨rfl, (HR.out 0).setErr 2, keep_ne_at (q := 0) _⟩
    · have t1 : decide (n < 0) = false := by simp; omega
      by_cases hs : (l.length : Int) - p < n
      · have hr : rRaw n l p 0 = ([], p, 3) := by unfold rRaw; rw [if_neg (by simp), if_neg hn, if_pos hs]
        rw [hr]
        clear hr h
        generalize bs l = sb at c0 hz
        have w1 : IntKind.i64.wrap ((sb.size : Int) - (p : Int)) = (sb.size : Int) - (p : Int) := IntWalk.i64_in _ (by omega)
        have t2 : (sb.size : Int) - (p : Int) < n := by omega
        clear hz hp hl hn hs
        go_enter Try.func79, Try.ntmps79
        go_wp2_with fail
        refine HE.mono ?_
        rintro v w1 ⟨rfl, rfl⟩
        go_wp2
        go_quiet (fail)
        go_wp2
        go_ret
        exact ⟨rfl, (HR.out _).setErr 3, keep_ne_at _ _⟩
      · obtain ⟨m, rfl⟩ : ∃ m : Nat, n = m := ⟨n.toNat, by omega⟩
        have hr : rRaw (m : Int) l p 0 = ((l.drop p).take m, p + m, 0) := by unfold rRaw; rw [if_neg (by simp), if_neg hn, if_neg hs]; rfl
        rw [hr]
        have hx := bs_extract l p (p + m)
        rw [show p + m - p = m by omega] at hx
        rw [← hx]
        clear hr h hx
        generalize bs l = sb at c0 hz ⊢
        have w1 : IntKind.i64.wrap ((sb.size : Int) - (p : Int)) = (sb.size : Int) - (p : Int) := IntWalk.i64_in _ (by omega)
        have t2 : decide ((sb.size : Int) - (p : Int) < (m : Int)) = false := by simp; omega
        have t3 : (p : Int) + (m : Int) ≤ (sb.size : Int) := by omega
        have t4 : (p : Int) ≤ (p : Int) + (m : Int) := by omega
        have t5 : (sb.size : Int) ≤ 281474976710656 := by omega
        have HX : Hid (((p + m : Nat) : Int) = (p : Int) + (m : Int)) := by show ((p + m : Nat) : Int) = (p : Int) + (m : Int); omega
        clear hz hp hl hn hs
        go_enter Try.func79, Try.ntmps79
        go_wp2_with fail
        refine HE.mono ?_
        rintro v w1 ⟨rfl, rfl⟩
        go_wp2
        go_quiet (fail)
        go_wp2
        go_quiet (fail)
        go_wp2
        go_ret
        exact ⟨rfl, (HR.out _).setAt (p + m), keep_ne_at _ _⟩
  · have hr : rRaw n l p e = ([], p, e) := by unfold rRaw; rw [if_pos he]
    rw [hr]
    clear hr h
    go_enter Try.func79, Try.ntmps79
    go_wp2_with fail
    refine HE.mono ?_
    rintro v w1 ⟨rfl, rfl⟩
    go_wp2
    go_ret
    exact ⟨rfl, HR.out 0, Keep.refl _ _⟩
/- a text read: the bytes, the place, the error -/
def rText (most : Int) (l : List UInt8) (p : Nat) (e : Int) : List UInt8 × Nat × Int :=
  if e ≠ 0 then ([], p, e) else
  if (rRaw (rNum most l p 0).1 l (rNum most l p 0).2.1 (rNum most l p 0).2.2).2.2 ≠ 0 then
    ((rRaw (rNum most l p 0).1 l (rNum most l p 0).2.1 (rNum most l p 0).2.2).1, p, (rRaw (rNum most l p 0).1 l (rNum most l p 0).2.1 (rNum most l p 0).2.2).2.2)
  else rRaw (rNum most l p 0).1 l (rNum most l p 0).2.1 (rNum most l p 0).2.2
theorem rText_le (most : Int) (l : List UInt8) (p : Nat) (e : Int) (hp : p ≤ l.length) : (rText most l p e).2.1 ≤ l.length := by
  unfold rText
  split
  · exact hp
  · split
    · exact hp
    · exact rRaw_le _ _ _ _ (rNum_le _ _ _ _ hp)
end Go.Proofs.Ytekeaoolodmdaaa
