import Derived.Test.YtekeaoolodmdaaaE3
import Derived.Test.YtekeaoolodmdaaaE4
import Derived.Test.YtekeaoolodmdaaaE6
import Derived.Test.YtekeaoolodmdaaaV5m
/- The text of pieces. -/
namespace Go.Proofs.Ytekeaoolodmdaaa
set_option maxRecDepth 100000
open Go.RowKit
attribute [local go_sem] run_store_complex
theorem tzs_take_len {b : Nat} {B : List UInt8} {l : List Pz} (h : ∀ x ∈ l, good b x) (hb : b = B.length) (k : Nat) : (tzs B (l.take k)).length = szs (l.take k) :=
  tzs_len (fun x hx => h x (List.mem_of_mem_take hx)) hb
theorem isb_all {T e B b : Nat} {xs : List Value} {w w' : World} (h : Lib.IsBuilder T e B b xs w) (hb : Below w.heap.size w w') : Lib.IsBuilder T e B b xs w' := by
  have key : ∀ p, Lib.BuilderAt T e B b p xs w → Lib.BuilderAt T e B b p xs w' := fun p ⟨h1, v, h2, h3, h4⟩ => ⟨h1, v, by rw [hb.block b (lt_of_block h2)]; exact h2, owns_all h3 hb, h4⟩
  exact h.imp (key _) (key _)
theorem slice_bs (B : List UInt8) (p n : Nat) : (bs B).extract p (p + n) = bs ((B.drop p).take n) := by rw [bs_extract, Nat.add_sub_cancel_left]
set_option maxHeartbeats 2000000 in
theorem join_any (B : List UInt8) (l : List Pz) (v : Value) (w : World) (hb : B.length ≤ 1000000) (hR : RowZ w v l) (hg : ∀ x ∈ l, good B.length x) (hs : ∀ x ∈ l, small x) (hsz : szs l ≤ 4099) :
    Calls Try.prog 73 #[.string (bs B), v] w fun e w' => e = .returned (.string (bs (tzs B l))) ∧ Below w.heap.size w w' := by
  obtain ⟨ad, cap, rfl, hc⟩ := hR.cells
  have C1 : Hid (∀ k, k < l.length → ∀ W, Calls Try.prog 62 #[.agg #[cpv (l.getD k zz), .string (bs (l.getD k zz).t)]] W fun e w' => e = .returned (.bool (decide (¬ (l.getD k zz).raw))) ∧ Below W.heap.size W w') := fun k hk W => iscopy_any (l.getD k zz) W (hs _ (getD_mem l zz k hk))
  have C2 : Hid (∀ k, k < l.length → ∀ W, Calls Try.prog 64 #[.agg #[cpv (l.getD k zz), .string (bs (l.getD k zz).t)]] W fun e w' => e = .returned (.tuple #[.int .i64 ((l.getD k zz).p : Int), .int .i64 ((l.getD k zz).n : Int)]) ∧ Below W.heap.size W w') := fun k hk W => span_any (l.getD k zz) W (hs _ (getD_mem l zz k hk))
  have HC := Lib.hid hc
  have HG : Hid (∀ k, k < l.length → good B.length (l.getD k zz)) := fun k hk => hg _ (getD_mem l zz k hk)
  have HS : Hid (∀ k, k < l.length → tzs B (l.take (k + 1)) = tzs B (l.take k) ++ tz B (l.getD k zz)) := fun k hk => by rw [take_next l zz k hk, tzs_snoc]
  have HM : Hid (∀ k, (tzs B (l.take k)).length ≤ 4099) := fun k => by rw [tzs_take_len hg rfl]; exact Nat.le_trans (szs_take_le l k) hsz
  have HL : Hid (l.length ≤ 4099) := Nat.le_trans (szs_ge hg) hsz
  have HE : Hid (tzs B (l.take l.length) = tzs B l) := by show _ = _; rw [List.take_length]
  have HZ : Hid ((bs B).size = B.length) := bs_size B
  have HX : Hid (∀ p n, (bs B).extract p (p + n) = bs ((B.drop p).take n)) := slice_bs B
  have HB := Lib.hid hb
  clear hc hg hs hsz hR hb
  generalize bs B = sB at *
  have N0 : Hid (Lib.IsBuilder 138 5 w.heap.size w.heap.size (cbs (tzs B (l.take 0))) (w.alloc (.cells #[.pointer none, .slice none 0 0] 138))) := Lib.fresh_isBuilder _ _ w
  go_enter Try.func73, Try.ntmps73
  go_wp2
  go_loopw [12] (fun i wr => ∃ k : Nat, k ≤ l.length ∧ i = .int .i64 (k : Int) ∧ Hid (Lib.IsBuilder 138 5 w.heap.size w.heap.size (cbs (tzs B (l.take k))) wr) ∧ Hid (Below w.heap.size w wr)) (fun i _ => l.length - (intOf i).toNat)
  case atStart => exact ⟨0, Nat.zero_le _, rfl, N0, (Below.refl _ _).alloc (Nat.le_refl _) _⟩
  case round =>
    obtain ⟨k, hk, rfl, hN, hL⟩ := hrel
    by_cases hlt : k < l.length
    · obtain ⟨g, o, rfl, hgl, h0, h1⟩ := HC.out k hlt
      have c0 : wr.cell? ⟨g, o + k * 2, none⟩ = some (cpv (l.getD k zz)) := by rw [hL.out.cell hgl]; exact h0
      have c1 : wr.cell? ⟨g, o + k * 2 + 1, none⟩ = some (.string (bs (l.getD k zz).t)) := by rw [hL.out.cell hgl]; exact h1
      have D1 := C1.out k hlt
      have HD1 : Hid (∀ W, _) := Lib.hid D1
      have D2 := C2.out k hlt
      have HD2 : Hid (∀ W, _) := Lib.hid D2
      have S1 := HS.out k hlt
      have G1 := HG.out k hlt
      have M1 := HM.out (k + 1)
      have M0 := HM.out k
      have hl0 := HL.out
      have hB0 := HB.out
      have zk : (0 : Int) ≤ (k : Int) := by omega
      have yk : (k : Int) < (l.length : Int) := by omega
      have w1 : IntKind.i64.wrap ((k : Int) + 1) = (k : Int) + 1 := IntWalk.i64_in _ (by omega)
      obtain ⟨x, hx⟩ : ∃ x, x = l.getD k zz := ⟨_, rfl⟩
      rw [← hx] at c0 c1 HD1 HD2 S1 G1
      clear D1 D2 C1 C2 HC HS HG HM HE h0 h1 hx
      have ht : tz B x = if x.raw then x.t else (B.drop x.p).take x.n := rfl
      have zt := bs_size x.t
      by_cases cr : x.raw
      · rw [if_pos cr] at ht
        rw [decide_eq_false (show ¬ ¬ x.raw from fun h => h cr)] at HD1
        rw [ht] at S1
        have hlen : (tzs B (l.take k)).length + x.t.length ≤ 140737488355328 := by rw [S1, List.length_append] at M1; omega
        have WR : Hid (∀ W, Lib.IsBuilder 138 5 w.heap.size w.heap.size (cbs (tzs B (l.take k))) W → w.heap.size ≤ W.heap.size → Calls Try.prog 80 #[.pointer (some ⟨w.heap.size, 0, none⟩), .string (bs x.t)] W fun e w' => e = .returned (.tuple #[.int .i64 (bs x.t).size, .nilIface]) ∧ Lib.IsBuilder 138 5 w.heap.size w.heap.size (cbs (tzs B (l.take k) ++ x.t)) w' ∧ Below w.heap.size W w') := fun W h1 h2 => bwrite_any h1 hlen h2
        rw [← S1] at WR
        unfold cpv at c0 HD1 HD2
        generalize FB (x.p : Int) = P at *
        generalize FB (x.n : Int) = N at *
        generalize bs x.t = sb at *
        clear hlen S1 G1 M1 M0 hl0 hB0 ht cr zt HD2 hk
        have HGL := Lib.hid hgl
        clear hgl
        have O : Hid (∀ (W : World), Below (wr.alloc (.cells #[.complex .f64 P N, .string sb] 76)).heap.size (wr.alloc (.cells #[.complex .f64 P N, .string sb] 76)) W → W.cell? ⟨wr.heap.size, 1, none⟩ = some (.string sb) ∧ Below w.heap.size w W ∧ Lib.IsBuilder 138 5 w.heap.size w.heap.size (cbs (tzs B (l.take k))) W) := fun W B2 => by
          refine ⟨?_, (hL.out.alloc hL.out.size _).trans (B2.mono (by have := hL.out.size; simp; omega)), isb_all hN.out (alloc_below B2)⟩
          rw [B2.cell (by simp)]; exact cell_of_row _ _ _ _ _ _ (heap_alloc_new _ _)
        go_wp2_with fail
        refine (HD1.out _).mono ?_
        rintro e w3 ⟨rfl, B3⟩
        obtain ⟨d1, L3, N3⟩ := O.out w3 B3
        have HL3 := Lib.hid L3
        have HN3 := Lib.hid N3
        clear B3 HD1 c0 c1 O L3 N3 hN
        go_wp2_with fail
        refine (WR.out _ HN3.out HL3.out.size).mono ?_
        rintro e w4 ⟨rfl, N4, B4⟩
        have HL4 := Lib.hid (HL3.out.trans B4)
        have HN4 := Lib.hid N4
        clear B4 N4 d1 HN3
        go_wp2
        go_roundw
        case rel => exact ⟨k + 1, by omega, by go_num, HN4, HL4⟩
        case measure => simp [intOf]; omega
      · rw [if_neg cr] at ht
        rw [decide_eq_true cr] at HD1
        rw [ht] at S1
        have hg2 : x.p + x.n ≤ B.length := by
          unfold good at G1
          rw [if_neg cr] at G1
          exact G1.2.2.2
        have hlen : (tzs B (l.take k)).length + ((B.drop x.p).take x.n).length ≤ 140737488355328 := by rw [S1, List.length_append] at M1; omega
        have WR : Hid (∀ W, Lib.IsBuilder 138 5 w.heap.size w.heap.size (cbs (tzs B (l.take k))) W → w.heap.size ≤ W.heap.size → Calls Try.prog 80 #[.pointer (some ⟨w.heap.size, 0, none⟩), .string (sB.extract x.p (x.p + x.n))] W fun e w' => e = .returned (.tuple #[.int .i64 (sB.extract x.p (x.p + x.n)).size, .nilIface]) ∧ Lib.IsBuilder 138 5 w.heap.size w.heap.size (cbs (tzs B (l.take k) ++ (B.drop x.p).take x.n)) w' ∧ Below w.heap.size W w') := fun W h1 h2 => by
          rw [HX.out]
          exact bwrite_any h1 hlen h2
        rw [← S1] at WR
        have z1 : (0 : Int) ≤ (x.p : Int) := by omega
        have z2 : (x.p : Int) ≤ (x.p : Int) + (x.n : Int) := by omega
        have z3 : (x.p : Int) + (x.n : Int) ≤ (sB.size : Int) := by rw [HZ.out]; omega
        have w5 : IntKind.i64.wrap ((x.p : Int) + (x.n : Int)) = (x.p : Int) + (x.n : Int) := IntWalk.i64_in _ (by omega)
        have e5 : ((x.p : Int) + (x.n : Int)).toNat = x.p + x.n := by omega
        unfold cpv at c0 HD1 HD2
        generalize FB (x.p : Int) = P at *
        generalize FB (x.n : Int) = N at *
        generalize bs x.t = sb at *
        clear hlen S1 G1 M1 M0 hl0 hB0 ht cr zt hk hg2
        have HGL := Lib.hid hgl
        clear hgl
        have O : Hid (∀ (W : World), Below (wr.alloc (.cells #[.complex .f64 P N, .string sb] 76)).heap.size (wr.alloc (.cells #[.complex .f64 P N, .string sb] 76)) W → W.cell? ⟨wr.heap.size, 0, none⟩ = some (.complex .f64 P N) ∧ W.cell? ⟨wr.heap.size, 1, none⟩ = some (.string sb) ∧ Below w.heap.size w W ∧ Lib.IsBuilder 138 5 w.heap.size w.heap.size (cbs (tzs B (l.take k))) W) := fun W B2 => by
          refine ⟨?_, ?_, (hL.out.alloc hL.out.size _).trans (B2.mono (by have := hL.out.size; simp; omega)), isb_all hN.out (alloc_below B2)⟩
          · rw [B2.cell (by simp)]; exact cell_of_row _ _ _ _ _ _ (heap_alloc_new _ _)
          · rw [B2.cell (by simp)]; exact cell_of_row _ _ _ _ _ _ (heap_alloc_new _ _)
        go_wp2_with fail
        refine (HD1.out _).mono ?_
        rintro e w3 ⟨rfl, B3⟩
        obtain ⟨d0, d1, L3, N3⟩ := O.out w3 B3
        have HL3 := Lib.hid L3
        have HN3 := Lib.hid N3
        clear B3 HD1 c0 c1 O L3 N3 hN
        go_wp2_with fail
        refine (HD2.out _).mono ?_
        rintro e w4 ⟨rfl, B4⟩
        have HL4 := Lib.hid (HL3.out.trans (B4.mono HL3.out.size))
        have HN4 := Lib.hid (isb_all HN3.out B4)
        clear B4 HD2 d0 d1 HL3 HN3
        go_wp2_with fail
        refine (WR.out _ HN4.out HL4.out.size).mono ?_
        rintro e w5 ⟨rfl, N5, B5⟩
        have HL5 := Lib.hid (HL4.out.trans B5)
        have HN5 := Lib.hid N5
        clear B5 N5 WR
        go_wp2
        go_roundw
        case rel => exact ⟨k + 1, by omega, by go_num, HN5, HL5⟩
        case measure => simp [intOf]; omega
    · have e : k = l.length := by omega
      subst e
      have SS : Hid (∀ W, Lib.IsBuilder 138 5 w.heap.size w.heap.size (cbs (tzs B (l.take l.length))) W → w.heap.size ≤ W.heap.size → Calls Try.prog 81 #[.pointer (some ⟨w.heap.size, 0, none⟩)] W fun e w' => e = .returned (.string (bs (tzs B (l.take l.length)))) ∧ Below w.heap.size W w') := fun W h1 h2 => bstring_any h1 h2
      have D := SS.out wr hN.out hL.out.size
      rw [HE.out] at D
      have HD := Lib.hid D
      clear C1 C2 HC HG HS HM HX HZ SS D
      go_wp2_with fail
      refine HD.out.mono ?_
      rintro e w3 ⟨rfl, B3⟩
      have HL3 := Lib.hid (hL.out.trans B3)
      clear B3 HD
      go_wp2
      go_ret
      exact ⟨rfl, HL3.out⟩
end Go.Proofs.Ytekeaoolodmdaaa
