import Derived.Test.YtnfhnkplkbpmpaaDoorW12
import Derived.Laws.Concat
namespace Go.Proofs.YtnfhnkplkbpmpaaDoor
open Go.RowKit
def dv (c : UInt8) : Int := if hok c = true then (hx c : Int) else -1
set_option maxHeartbeats 1000000 in
set_option maxRecDepth 100000 in
theorem digit_any (c : UInt8) (w : World) :
    Calls Tryd.prog 25 #[.int .u8 (c.toNat : Int)] w fun e w' => e = .returned (.int .i64 (dv c)) ∧ w = w' := by
  have hlt := c.toNat_lt
  by_cases h1 : 48 ≤ c.toNat ∧ c.toNat ≤ 57
  · obtain ⟨a1, a2⟩ := h1
    have e : hx c = c.toNat - 48 := by unfold hx; rw [if_pos ⟨a1, a2⟩]
    have e2 : hok c = true := by unfold hok; simp [a1, a2]
    have e3 : dv c = (c.toNat : Int) - 48 := by unfold dv; rw [if_pos e2, e]; omega
    rw [e3]
    clear e e2 e3
    have b1 : (48 : Int) ≤ (c.toNat : Int) := by omega
    have b2 : (c.toNat : Int) ≤ 57 := by omega
    go_enter Tryd.func25, Tryd.ntmps25
    go_wp2
    go_ret
    exact ⟨rfl, rfl⟩
  · by_cases h2 : 97 ≤ c.toNat ∧ c.toNat ≤ 102
    · obtain ⟨a1, a2⟩ := h2
      have e : hx c = c.toNat - 87 := by unfold hx; rw [if_neg h1, if_pos ⟨a1, a2⟩]
      have e2 : hok c = true := by unfold hok; simp [a1, a2]
      have e3 : dv c = (c.toNat : Int) - 97 + 10 := by unfold dv; rw [if_pos e2, e]; omega
      rw [e3]
      clear e e2 e3 h1
      have b1 : (97 : Int) ≤ (c.toNat : Int) := by omega
      have b2 : (c.toNat : Int) ≤ 102 := by omega
      have b3 : (48 : Int) ≤ (c.toNat : Int) := by omega
      have b4 : decide ((c.toNat : Int) ≤ 57) = false := by simp; omega
      go_enter Tryd.func25, Tryd.ntmps25
      go_wp2
      go_ret
      exact ⟨rfl, rfl⟩
    · have e2 : hok c = false := by unfold hok; simp; omega
      have e3 : dv c = -1 := by unfold dv; rw [e2]; rfl
      rw [e3]
      clear e2 e3
      by_cases c1 : 48 ≤ c.toNat
      · by_cases c2 : 97 ≤ c.toNat
        · have b1 : (97 : Int) ≤ (c.toNat : Int) := by omega
          have b2 : decide ((c.toNat : Int) ≤ 102) = false := by simp; omega
          have b3 : (48 : Int) ≤ (c.toNat : Int) := by omega
          have b4 : decide ((c.toNat : Int) ≤ 57) = false := by simp; omega
          clear h1 h2
          go_enter Tryd.func25, Tryd.ntmps25
          go_wp2
          go_ret
          exact ⟨rfl, rfl⟩
        · have b1 : decide ((97 : Int) ≤ (c.toNat : Int)) = false := by simp; omega
          have b3 : (48 : Int) ≤ (c.toNat : Int) := by omega
          have b4 : decide ((c.toNat : Int) ≤ 57) = false := by simp; omega
          clear h1 h2
          go_enter Tryd.func25, Tryd.ntmps25
          go_wp2
          go_ret
          exact ⟨rfl, rfl⟩
      · have b1 : decide ((97 : Int) ≤ (c.toNat : Int)) = false := by simp; omega
        have b3 : decide ((48 : Int) ≤ (c.toNat : Int)) = false := by simp; omega
        clear h1 h2
        go_enter Tryd.func25, Tryd.ntmps25
        go_wp2
        go_ret
        exact ⟨rfl, rfl⟩
theorem cut_digit (n : Nat) (hn : n < 16) (w : World) : (Instr.slice 9 (.string { data := #[48, 49, 50, 51, 52, 53, 54, 55, 56, 57, 97, 98, 99, 100, 101, 102] }) (some (.int .i64 (n : Int))) (some (.int .i64 ((n : Int) + 1))) none).run Tryd.prog w = .ok (.string { data := #[dgt n] }) w := by
  match n, hn with
  | 0, _ => rfl
  | 1, _ => rfl
  | 2, _ => rfl
  | 3, _ => rfl
  | 4, _ => rfl
  | 5, _ => rfl
  | 6, _ => rfl
  | 7, _ => rfl
  | 8, _ => rfl
  | 9, _ => rfl
  | 10, _ => rfl
  | 11, _ => rfl
  | 12, _ => rfl
  | 13, _ => rfl
  | 14, _ => rfl
  | 15, _ => rfl
  | n + 16, h => omega
theorem add_lists (x y : List UInt8) (hx : x.length ≤ 100) (hy : y.length ≤ 100) (w : World) : (binOp .add 9 (.string ⟨x.toArray⟩) (.string ⟨y.toArray⟩)).run Tryd.prog w = .ok (.string ⟨(x ++ y).toArray⟩) w := by
  simp [binOp, run_string_add_lists w x y (by omega) (by omega)]
set_option maxHeartbeats 1000000 in
set_option maxRecDepth 100000 in
theorem refhex_any (f : Nat → UInt8) (w : World) :
    Calls Tryd.prog 19 #[.agg (arr 32 (bv f))] w fun e w' => e = .returned (.string ⟨(hexL f 32).toArray⟩) ∧ Below w.heap.size w w' := by
  have B0 : Blk (w.alloc (.cells (arr 32 (bv f)) 26)) w.heap.size 26 32 (bv f) := Blk.newAt _ (heap_alloc_new _ _) rfl
  have L0 : ∀ A, Below w.heap.size w (w.alloc A) := fun A => (Below.refl _ _).alloc (Nat.le_refl _) _
  go_enter Tryd.func19, Tryd.ntmps19
  go_wp2_with fail
  go_loopw [3, 4] (fun v i wr => ∃ (k : Nat), k ≤ 32 ∧ i = .int .i64 k ∧ v = .string ⟨(hexL f k).toArray⟩ ∧ Blk wr w.heap.size 26 32 (bv f) ∧ Below w.heap.size w wr)
    (fun _ i _ => 32 - (intOf i).toNat)
  case atStart => exact ⟨0, by omega, rfl, rfl, B0, L0 _⟩
  case round =>
    clear B0 L0
    obtain ⟨k, hk, rfl, rfl, hB, hbl⟩ := hrel
    by_cases hlt : k < 32
    · have hf := (f k).toNat_lt
      obtain ⟨hi, hhi⟩ : ∃ hi, hi = (f k).toNat / 16 := ⟨_, rfl⟩
      obtain ⟨lo, hlo⟩ : ∃ lo, lo = (f k).toNat % 16 := ⟨_, rfl⟩
      have e1 : ((f k).toNat : Int) / 16 = (hi : Int) := by omega
      have e2 : ((f k).toNat : Int) % 16 = (lo : Int) := by omega
      have e3 : ((f k).toNat : Int).tdiv 16 = (hi : Int) := by rw [Int.tdiv_eq_ediv_of_nonneg (by omega)]; exact e1
      have e4 : ((f k).toNat : Int).tmod 16 = (lo : Int) := by rw [Int.tmod_eq_emod_of_nonneg (by omega)]; exact e2
      have i1 := cut_digit hi (by omega)
      have i2 := cut_digit lo (by omega)
      have n0 := hexL_length f k
      have n1 : ¬ 9223372036854775807 < (hexL f k).length + 1 := by omega
      have n2 : ¬ 9223372036854775807 < (hexL f k).length + 1 + 1 := by omega
      clear n0
      have Hhi := Lib.hid hhi
      have Hlo := Lib.hid hlo
      have b1 : (hi : Int) < 16 := by omega
      have b2 : (lo : Int) < 16 := by omega
      have w1 : IntKind.i64.wrap ((hi : Int) + 1) = (hi : Int) + 1 := IntWalk.i64_in _ (by omega)
      have w2 : IntKind.i64.wrap ((lo : Int) + 1) = (lo : Int) + 1 := IntWalk.i64_in _ (by omega)
      have w3 : IntKind.i64.wrap (hi : Int) = (hi : Int) := IntWalk.i64_in _ (by omega)
      have w4 : IntKind.i64.wrap (lo : Int) = (lo : Int) := IntWalk.i64_in _ (by omega)
      have w5 : IntKind.i64.wrap ((f k).toNat : Int) = ((f k).toNat : Int) := IntWalk.i64_in _ (by omega)
      clear hhi hlo
      have c1 : wr.cell? ⟨w.heap.size, k, none⟩ = some (.int .u8 ((f k).toNat : Int)) := hB.cell k hlt
      have zk : (0 : Int) ≤ (k : Int) := by omega
      have yk : (k : Int) < 32 := by omega
      go_wp2
      go_quiet (fail)
      go_outline
      go_wp2
      go_quiet (fail)
      have es : ((⟨(hexL f k).toArray⟩ : ByteArray) ++ ⟨#[dgt hi]⟩ ++ ⟨#[dgt lo]⟩) = ⟨(hexL f (k + 1)).toArray⟩ := by
        have h1 := Hhi.out
        have h2 := Hlo.out
        rw [h1, h2]
        exact (congrArg (fun z => z ++ (⟨#[dgt ((f k).toNat % 16)]⟩ : ByteArray)) (ByteArray.mk_append_mk (hexL f k) [dgt ((f k).toNat / 16)])).trans ((ByteArray.mk_append_mk _ [dgt ((f k).toNat % 16)]).trans (by rw [List.append_assoc]; rfl))
      rw [es]
      clear es n1 n2 i1 i2 Hhi Hlo b1 b2 w1 w2 w3 w4 w5 e1 e2 e3 e4 c1
      go_wp2
      go_roundw
      case rel =>
        exact ⟨k + 1, by omega, by go_num, rfl, hB.drewN _, below_drewN hbl _⟩
      case measure => simp [intOf]; omega
    · have e : k = 32 := by omega
      subst e
      go_wp2
      go_ret
      exact ⟨rfl, hbl⟩
/- what the document's reading of a text has behind i letters -/
def pt (s : ByteArray) (i j : Nat) : UInt8 := if 2 * j + 1 < i then unhexAt (sAt s) j else if 2 * j < i then UInt8.ofNat (hx (sAt s (2 * j))) else 0
theorem pt_lt (s : ByteArray) (i : Nat) : (pt s i (i / 2)).toNat < 16 := by
  unfold pt
  rw [if_neg (by omega)]
  split
  · have := hx_lt (sAt s (2 * (i / 2)))
    rw [UInt8.toNat_ofNat']; omega
  · decide
theorem pt_step (s : ByteArray) (i j : Nat) : pt s (i + 1) j = if j = i / 2 then UInt8.ofNat ((pt s i (i / 2)).toNat * 16 + hx (sAt s i)) else pt s i j := by
  by_cases c : j = i / 2
  · rw [if_pos c]
    subst c
    by_cases o : i = 2 * (i / 2)
    · have e : pt s i (i / 2) = 0 := by unfold pt; rw [if_neg (by omega), if_neg (by omega)]
      rw [e]
      unfold pt
      rw [if_neg (by omega), if_pos (by omega), ← o]
      congr 1
      show hx (sAt s i) = 0 * 16 + hx (sAt s i)
      omega
    · have e : (pt s i (i / 2)).toNat = hx (sAt s (2 * (i / 2))) := by
        unfold pt
        rw [if_neg (by omega), if_pos (by omega), UInt8.toNat_ofNat']
        have := hx_lt (sAt s (2 * (i / 2))); omega
      rw [e]
      unfold pt
      rw [if_pos (by omega)]
      unfold unhexAt
      rw [show 2 * (i / 2) + 1 = i by omega]
  · rw [if_neg c]
    unfold pt
    by_cases a : 2 * j + 1 < i
    · rw [if_pos a, if_pos (by omega)]
    · rw [if_neg a, if_neg (by omega)]
      by_cases b : 2 * j < i
      · rw [if_pos b, if_pos (by omega)]
      · rw [if_neg b, if_neg (by omega)]
set_option maxHeartbeats 1000000 in
set_option maxRecDepth 100000 in
theorem refunhex_any (s : ByteArray) (w : World) (hs : s.size ≤ 1073741824) :
    Calls Tryd.prog 17 #[.string s] w fun e w' => e = .returned (.tuple #[.agg (arr 32 (bv (uh s))), .bool (uok s)]) ∧ Below w.heap.size w w' := by
  have R0 : Blk (w.alloc (.cells (arr 32 (bv fun _ => 0)) 26)) w.heap.size 26 32 (bv fun _ => 0) := Blk.newAt _ (heap_alloc_new _ _) rfl
  have L0 : ∀ A, Below w.heap.size w (w.alloc A) := fun A => (Below.refl _ _).alloc (Nat.le_refl _) _
  by_cases h64 : s.size = 64
  · have H64 := Lib.hid h64
    have b64 : (((s.size : Nat) : Int) != 64) = false := by rw [h64]; rfl
    clear h64
    go_enter Tryd.func17, Tryd.ntmps17
    go_wp2
    go_loopw [5] (fun i wr => ∃ (k : Nat), k ≤ 64 ∧ i = .int .i64 k ∧ Blk wr (w.heap.size + 1) 26 32 (bv (pt s k)) ∧ (∀ j, j < k → hok (sAt s j) = true) ∧ Blk wr w.heap.size 26 32 (bv fun _ => 0) ∧ Below w.heap.size w wr)
      (fun i _ => 64 - (intOf i).toNat)
    case atStart => exact ⟨0, by omega, rfl, (Blk.newAt _ (heap_alloc2_new w _ _) (by rfl) : Blk _ _ 26 32 (bv fun _ => 0)).congr fun j _ => by unfold bv pt; rw [if_neg (by omega), if_neg (by omega)], fun j hj => absurd hj (by omega), R0.alloc _, (L0 _).alloc (by simp) _⟩
    case round =>
      obtain ⟨k, hk, rfl, hB, ho, hR, hbl⟩ := hrel
      have O := Lib.hid ho
      clear ho R0 L0
      by_cases hlt : k < 64
      · obtain ⟨c1, hc1⟩ : ∃ c, sAt s k = c := ⟨_, rfl⟩
        have i1 := idx_str s k (by have := H64.out; omega)
        rw [hc1] at i1
        have Hc1 := Lib.hid hc1
        clear hc1
        cases h1 : hok c1
        · have d1 : dv c1 = -1 := by unfold dv; rw [h1]; rfl
          go_wp2_with fail
          refine (digit_any c1 _).mono ?_
          rw [d1]
          rintro e w' ⟨rfl, rfl⟩
          have hR2 := hR.setRow (bv fun _ => 0)
          have hb2 := below_setRow hbl (Nat.le_refl _) (arr 32 (bv fun _ => 0))
          go_wp2_with (refine wpList_store_blk rfl 26 (.tmp 2) (.tmp 21) rfl w.heap.size 32 (bv fun _ => 0) (bv fun _ => 0) rfl rfl 26 hR sz26 (fun _ _ => rfl) ?_)
          generalize wr.setRow w.heap.size (arr 32 (bv fun _ => 0)) = w3 at hR2 hb2 ⊢
          refine bodyPost_ret (v := .tuple #[.agg (arr 32 (bv fun _ => 0)), .bool false]) (results_blk_slot rfl _ _ w.heap.size 26 32 _ hR2 _ _ rfl rfl ty26 rfl sz26) rfl ⟨?_, hb2⟩
          have hu : uok s = false := by
            unfold uok
            rw [Bool.and_eq_false_iff]
            right
            cases hq : okF (sAt s) 32
            · rfl
            · rw [okF_iff] at hq
              rw [← Hc1.out, hq _ (by omega)] at h1; cases h1
          have e : uh s = fun _ => 0 := funext fun i => by unfold uh; rw [hu]; rfl
          rw [hu, e]
        · have d1 : dv c1 = (hx c1 : Int) := by unfold dv; rw [h1]; rfl
          have l1 := hx_lt c1
          obtain ⟨x, hx⟩ : ∃ x, x = hx c1 := ⟨_, rfl⟩
          rw [← hx] at d1 l1
          obtain ⟨q, hq⟩ : ∃ q, q = k / 2 := ⟨_, rfl⟩
          have fB := hB.frozen q
          have lp := pt_lt s k
          rw [← hq] at lp
          have st := pt_step s k
          obtain ⟨p, hp⟩ : ∃ p, p = (pt s k q).toNat := ⟨_, rfl⟩
          rw [← hp] at lp
          have cB : wr.cell? ⟨w.heap.size + 1, q, none⟩ = some (.int .u8 (p : Int)) := by rw [hp]; exact hB.cell q (by omega)
          rw [← hq, ← hp, Hc1.out, ← hx] at st
          have St := Lib.hid st
          have e1 : (k : Int) / 2 = (q : Int) := by omega
          have e3 : (k : Int).tdiv 2 = (q : Int) := by rw [Int.tdiv_eq_ediv_of_nonneg (by omega)]; exact e1
          have zq : (q : Int) < 32 := by omega
          have w5 : IntKind.i64.wrap (q : Int) = (q : Int) := IntWalk.i64_in _ (by omega)
          have Hq := Lib.hid hq
          clear st hq hp hx
          go_wp2_with fail
          refine (digit_any c1 _).mono ?_
          rw [d1]
          rintro e w' ⟨rfl, rfl⟩
          go_wp2
          go_roundw
          case rel =>
            refine ⟨k + 1, by omega, by go_num, ?_, ?_, hR.setOther _ _ (by simp), hbl.setCell (by simp) _⟩
            · refine (hB.set q _).congr fun i hi => ?_
              have es := St.out i
              unfold bv
              rw [es]
              by_cases c : i = q
              · rw [if_pos c, if_pos c, UInt8.toNat_ofNat']
                congr 1
                omega
              · rw [if_neg c, if_neg c]
            · intro j hj
              by_cases c : j < k
              · exact O.out j c
              · rw [show j = k by omega, Hc1.out]; exact h1
          case measure => simp [intOf]; omega
      · have e : k = 64 := by omega
        subst e
        have hR2 := hR.setRow (bv (pt s 64))
        have hb2 := below_setRow hbl (Nat.le_refl _) (arr 32 (bv (pt s 64)))
        go_wp2_with (first | (refine wpList_load_blk rfl 26 (.tmp 4) rfl (w.heap.size + 1) rfl 26 32 (bv (pt s 64)) hB _ ty26 rfl sz26 ?_) | (refine wpList_store_blk rfl 26 (.tmp 2) (.tmp 33) rfl w.heap.size 32 (bv (pt s 64)) (bv fun _ => 0) rfl rfl 26 hR sz26 (fun _ _ => rfl) ?_))
        generalize wr.setRow w.heap.size (arr 32 (bv (pt s 64))) = w3 at hR2 hb2 ⊢
        refine bodyPost_ret (v := .tuple #[.agg (arr 32 (bv (pt s 64))), .bool true]) (results_blk_slot rfl _ _ w.heap.size 26 32 _ hR2 _ _ rfl rfl ty26 rfl sz26) rfl ⟨?_, hb2⟩
        have hu : uok s = true := by
          unfold uok
          rw [Bool.and_eq_true]
          exact ⟨decide_eq_true H64.out, (okF_iff _ _).2 fun i hi => O.out i (by omega)⟩
        rw [hu]
        exact congrArg (fun a => Ending.returned (.tuple #[.agg a, .bool true])) (arr_congr fun i hi => by unfold bv uh pt; rw [if_pos hu, if_pos (by omega)])
  · have b64 : (((s.size : Nat) : Int) != 64) = true := by rw [bne_iff_ne]; omega
    have hu : uok s = false := by unfold uok; rw [decide_eq_false h64]; rfl
    have e : uh s = fun _ => 0 := funext fun i => by unfold uh; rw [hu]; rfl
    rw [hu, e]
    clear h64 hu e
    go_enter Tryd.func17, Tryd.ntmps17
    go_wp2_with (refine wpList_store_blk rfl 26 (.tmp 2) (.tmp 10) rfl w.heap.size 32 (bv fun _ => 0) (bv fun _ => 0) rfl rfl 26 R0 sz26 (fun _ _ => rfl) ?_)
    have hR2 := R0.setRow (bv fun _ => 0)
    have hb2 := below_setRow (L0 (.cells (arr 32 (bv fun _ => 0)) 26)) (Nat.le_refl _) (arr 32 (bv fun _ => 0))
    exact bodyPost_ret (v := .tuple #[.agg (arr 32 (bv fun _ => 0)), .bool false]) (results_blk_slot rfl _ _ w.heap.size 26 32 _ hR2 _ _ rfl rfl ty26 rfl sz26) rfl ⟨rfl, hb2⟩
end Go.Proofs.YtnfhnkplkbpmpaaDoor
