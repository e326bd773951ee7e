import Derived.Test.YtekeaoolodmdaaaE3
import Derived.Test.YtekeaoolodmdaaaE6
import Derived.Test.YtekeaoolodmdaaaV1m
/- A piece written. -/
namespace Go.Proofs.Ytekeaoolodmdaaa
set_option maxRecDepth 100000
open Go.RowKit
attribute [local go_sem] run_store_complex
set_option maxHeartbeats 400000 in
theorem wnum2_any {K : Nat → Prop} {w : World} {h : Nat} {l : List UInt8} (n m b : Nat) (hn : n ≤ 1099511627775) (hm : m ≤ 1099511627775) (hw : Wr K w h l) (hK : K b) (h0 : w.cell? ⟨b, 0, none⟩ = some (.int .i64 (n : Int))) (h1 : w.cell? ⟨b, 1, none⟩ = some (.int .i64 (m : Int))) (hl : l.length ≤ 1099511627000) :
    Calls Try.prog 46 #[.pointer (some ⟨h, 0, none⟩), .slice (some ⟨b, 0, none⟩) 2 2] w fun e w' => e = .returned (.tuple #[]) ∧ Wr K w' h (l ++ dg n ++ dg m) ∧ Keep K w w' := by
  have H : Hid (∀ x : Int, x = (n : Int) → Calls Try.prog 61 #[.pointer (some ⟨h, 0, none⟩), .int .i64 x] w fun e w' => e = .returned (.tuple #[]) ∧ Wr K w' h (l ++ dg n) ∧ Keep K w w') := by
    rintro _ rfl
    exact wnum_any n hw hn (by omega)
  have hd : (dg n).length ≤ 6 := by have := dg_le n 0 (by omega) (by omega); omega
  have H2 : Hid (∀ (W : World) (x : Int), x = (m : Int) → Wr K W h (l ++ dg n) → Calls Try.prog 61 #[.pointer (some ⟨h, 0, none⟩), .int .i64 x] W fun e w' => e = .returned (.tuple #[]) ∧ Wr K w' h (l ++ dg n ++ dg m) ∧ Keep K W w') := by
    rintro W _ rfl hW
    exact wnum_any m hW hm (by rw [List.length_append]; omega)
  have HK := Lib.hid hK
  have q1 : min (max (n : Int) 0) 1099511627775 = (n : Int) := by omega
  have q2 : min (max (m : Int) 0) 1099511627775 = (m : Int) := by omega
  clear hK hd hw hn hm hl
  go_enter Try.func46, Try.ntmps46
  go_wp2
  refine wp_loop_rounds 3 ?_
  rw [rounds_succ]
  go_wp2_with fail
  refine (H.out _ (by omega)).mono ?_
  rintro e w1 ⟨rfl, g1, g2⟩
  have c1 : w1.cell? ⟨b, 1, none⟩ = some (.int .i64 (m : Int)) := g2.cell HK.out h1
  go_wp2
  rw [rounds_succ]
  go_wp2_with fail
  refine (H2.out _ _ (by omega) g1).mono ?_
  rintro e w2 ⟨rfl, g3, g4⟩
  have G := Lib.hid (g2.trans g4)
  clear g1 g2 g4 H H2
  go_wp2
  rw [rounds_succ]
  go_wp2
  go_end0
  exact ⟨rfl, g3, G.out⟩
set_option maxHeartbeats 1000000 in
theorem writeraw_any {K : Nat → Prop} {w : World} {h : Nat} {l : List UInt8} (x : Pz) (hs : small x) (c : x.raw) (ht : x.t.length ≤ 1000000) (hw : Wr K w h l) (hl : l.length ≤ 1000000000) :
    Calls Try.prog 47 #[.pointer (some ⟨h, 0, none⟩), pv x] w fun e w' => e = .returned (.tuple #[]) ∧ Wr K w' h (l ++ dg (2 * x.t.length) ++ x.t) ∧ Keep K w w' := by
  have C1 : Hid (∀ W, Calls Try.prog 62 #[pv x] W fun e w' => e = .returned (.bool (decide (¬ x.raw))) ∧ Below W.heap.size W w') := fun W => iscopy_any x W hs
  rw [decide_eq_false (show ¬ ¬ x.raw from fun h => h c)] at C1
  have hz := bs_size x.t
  have NUM : Hid (∀ (K1 : Nat → Prop) W b, Wr K1 W h l → W.cell? ⟨b, 0, none⟩ = some (.int .i64 (2 * ((bs x.t).size : Int))) → b ≠ h → Calls Try.prog 46 #[.pointer (some ⟨h, 0, none⟩), .slice (some ⟨b, 0, none⟩) 1 1] W fun e w' => e = .returned (.tuple #[]) ∧ Wr K1 w' h (l ++ dg (2 * x.t.length)) ∧ Keep K1 W w') := fun K1 W b h1 h2 h3 => by
    have := wnum1_any (2 * ((bs x.t).size : Int)) b h1 h2 h3 (by omega)
    rw [clamp_of (by omega) (by omega), hz, show (2 * (x.t.length : Int)).toNat = 2 * x.t.length by omega] at this
    exact this
  have hd : (dg (2 * x.t.length)).length ≤ 6 := by have := dg_le (2 * x.t.length) 0 (by omega) (by omega); omega
  have RAW : Hid (∀ (K1 : Nat → Prop) W b, Wr K1 W h (l ++ dg (2 * x.t.length)) → W.cell? ⟨b, 0, none⟩ = some (.string (bs x.t)) → Calls Try.prog 63 #[.pointer (some ⟨h, 0, none⟩), .slice (some ⟨b, 0, none⟩) 1 1] W fun e w' => e = .returned (.tuple #[]) ∧ Wr K1 w' h (l ++ dg (2 * x.t.length) ++ x.t) ∧ Keep K1 W w') := fun K1 W b h1 h2 =>
    wraw_any x.t b h1 h2 (by rw [List.length_append]; omega)
  have w5 : IntKind.i64.wrap (2 * ((bs x.t).size : Int)) = 2 * ((bs x.t).size : Int) := IntWalk.i64_in _ (by omega)
  unfold pv cpv at C1 ⊢
  generalize FB (x.p : Int) = P at *
  generalize FB (x.n : Int) = N at *
  generalize bs x.t = sb at *
  have hA := Lib.hid (hw.add (.cells #[.complex .f64 P N, .string sb] 76))
  have hlt := Lib.hid hw.lt
  clear hs c ht hz hd hl hw
  go_enter Try.func47, Try.ntmps47
  go_wp2_with fail
  refine (C1.out _).mono ?_
  rintro e w1 ⟨rfl, B1⟩
  have c1 : w1.cell? ⟨w.heap.size, 1, none⟩ = some (.string sb) := by
    rw [B1.cell (by simp)]; exact cell_of_row _ _ _ _ _ _ (heap_alloc_new _ _)
  have W1 := Lib.hid (hA.out.all B1)
  have K1 := Lib.hid (Keep.of_below (K := K) (alloc_below B1) (fun k _ hk => hk))
  have z1 := B1.size
  have Z1 : Hid (w.heap.size < w1.heap.size) := by show _ < _; simp at z1; omega
  clear B1 C1 hA z1
  go_wp2_with fail
  refine (NUM.out _ _ _ (W1.out.alloc _) (cell_of_row _ _ _ _ _ _ (heap_alloc_new _ _)) (by have := hlt.out; have := Z1.out; omega)).mono ?_
  rintro e w2 ⟨rfl, W2, K2⟩
  have c2 : w2.cell? ⟨w.heap.size, 1, none⟩ = some (.string sb) := K2.cell (Or.inr rfl) (by
    rw [World.cell?_of_block (w := w1) (heap_alloc_old _ _ Z1.out)]; exact c1)
  have HW2 := Lib.hid W2
  have HK2 := Lib.hid ((K1.out.alloc _).trans (K2.mono (fun k hk _ => Or.inl hk)))
  clear W2 K2 W1 K1 c1 NUM
  go_wp2_with fail
  refine (RAW.out _ _ _ (HW2.out.alloc _) (cell_of_row _ _ _ _ _ _ (heap_alloc_new _ _))).mono ?_
  rintro e w3 ⟨rfl, W3, K3⟩
  have HW3 := Lib.hid (W3.mono (K' := K) (fun k hk => Or.inl hk))
  have HK3 := Lib.hid ((HK2.out.alloc _).trans (K3.mono (fun k hk _ => Or.inl hk)))
  clear W3 K3 RAW HW2
  go_wp2
  exact bodyPost_ret (results_none rfl _ _ _) rfl ⟨rfl, HW3.out, HK3.out⟩
set_option maxHeartbeats 1000000 in
theorem writecopy_any {K : Nat → Prop} {w : World} {h : Nat} {l : List UInt8} (x : Pz) (hs : small x) (c : ¬ x.raw) (hn : x.n ≤ 1000000) (hp : x.p ≤ 1000000) (hw : Wr K w h l) (hl : l.length ≤ 1000000000) :
    Calls Try.prog 47 #[.pointer (some ⟨h, 0, none⟩), pv x] w fun e w' => e = .returned (.tuple #[]) ∧ Wr K w' h (l ++ dg (2 * x.n + 1) ++ dg x.p) ∧ Keep K w w' := by
  have C1 : Hid (∀ W, Calls Try.prog 62 #[pv x] W fun e w' => e = .returned (.bool (decide (¬ x.raw))) ∧ Below W.heap.size W w') := fun W => iscopy_any x W hs
  have C2 : Hid (∀ W, Calls Try.prog 64 #[pv x] W fun e w' => e = .returned (.tuple #[.int .i64 (x.p : Int), .int .i64 (x.n : Int)]) ∧ Below W.heap.size W w') := fun W => span_any x W hs
  rw [decide_eq_true c] at C1
  have NUM : Hid (∀ (K1 : Nat → Prop) W b, Wr K1 W h l → K1 b → W.cell? ⟨b, 0, none⟩ = some (.int .i64 (2 * (x.n : Int) + 1)) → W.cell? ⟨b, 1, none⟩ = some (.int .i64 (x.p : Int)) → Calls Try.prog 46 #[.pointer (some ⟨h, 0, none⟩), .slice (some ⟨b, 0, none⟩) 2 2] W fun e w' => e = .returned (.tuple #[]) ∧ Wr K1 w' h (l ++ dg (2 * x.n + 1) ++ dg x.p) ∧ Keep K1 W w') := fun K1 W b h1 h2 h3 h4 =>
    wnum2_any (2 * x.n + 1) x.p b (by omega) (by omega) h1 h2 (by rw [h3]; congr 2) h4 (by omega)
  have w5 : IntKind.i64.wrap (2 * (x.n : Int)) = 2 * (x.n : Int) := IntWalk.i64_in _ (by omega)
  have w6 : IntKind.i64.wrap (2 * (x.n : Int) + 1) = 2 * (x.n : Int) + 1 := IntWalk.i64_in _ (by omega)
  unfold pv cpv at C1 C2 ⊢
  generalize FB (x.p : Int) = P at *
  generalize FB (x.n : Int) = N at *
  generalize bs x.t = sb at *
  have hA := Lib.hid (hw.alloc (.cells #[.complex .f64 P N, .string sb] 76))
  clear hs c hn hp hl
  have hlt := Lib.hid hw.lt
  clear hw
  go_enter Try.func47, Try.ntmps47
  go_wp2_with fail
  refine (C1.out _).mono ?_
  rintro e w1 ⟨rfl, B1⟩
  have c0 : w1.cell? ⟨w.heap.size, 0, none⟩ = some (.complex .f64 P N) := by
    rw [B1.cell (by simp)]; exact cell_of_row _ _ _ _ _ _ (heap_alloc_new _ _)
  have c1 : w1.cell? ⟨w.heap.size, 1, none⟩ = some (.string sb) := by
    rw [B1.cell (by simp)]; exact cell_of_row _ _ _ _ _ _ (heap_alloc_new _ _)
  have W1 := Lib.hid (hA.out.all B1)
  have K1 := Lib.hid (Keep.of_below (K := K) (alloc_below B1) (fun k _ hk => hk))
  clear B1 C1 hA
  go_wp2_with fail
  refine (C2.out _).mono ?_
  rintro e w2 ⟨rfl, B2⟩
  have W2 := Lib.hid (W1.out.all B2)
  have K2 := Lib.hid (K1.out.trans (Keep.all B2))
  clear B2 C2 c0 c1 W1 K1
  go_wp2_with fail
  refine (NUM.out _ _ _ (W2.out.add _) (Or.inr rfl) (cell_of_row _ _ _ _ _ _ (heap_alloc_new _ _)) (cell_of_row _ _ _ _ _ _ (heap_alloc_new _ _))).mono ?_
  rintro e w3 ⟨rfl, W3, K3⟩
  have HW3 := Lib.hid (W3.mono (K' := K) (fun k hk => Or.inl hk))
  have HK3 := Lib.hid ((K2.out.alloc _).trans (K3.mono (fun k hk _ => Or.inl hk)))
  clear W3 K3 NUM W2 K2
  go_wp2
  go_end0
  exact ⟨rfl, HW3.out, HK3.out⟩
theorem wz_len {b : Nat} (hb : b ≤ 4099) {x : Pz} (h : good b x) : (wz x).length ≤ 6 + 4099 := by
  unfold good at h
  unfold wz
  split at h
  · rename_i hr
    rw [if_pos hr, List.length_append]
    have := dg_le (2 * x.t.length) 0 (by omega) (by omega)
    omega
  · rename_i hr
    rw [if_neg hr, List.length_append]
    have := dg_le (2 * x.n + 1) 0 (by omega) (by omega)
    have := dg_le x.p 0 (by omega) (by omega)
    omega
theorem writepiece_any {K : Nat → Prop} {w : World} {h b : Nat} {l : List UInt8} (x : Pz) (hb : b ≤ 4099) (hg : good b x) (hs : small x) (hw : Wr K w h l) (hl : l.length ≤ 1000000000) :
    Calls Try.prog 47 #[.pointer (some ⟨h, 0, none⟩), pv x] w fun e w' => e = .returned (.tuple #[]) ∧ Wr K w' h (l ++ wz x) ∧ Keep K w w' := by
  unfold good at hg
  unfold wz
  by_cases c : x.raw
  · rw [if_pos c] at hg ⊢
    rw [← List.append_assoc]
    exact writeraw_any x hs c (by omega) hw hl
  · rw [if_neg c] at hg ⊢
    rw [← List.append_assoc]
    exact writecopy_any x hs c (by omega) (by omega) hw hl
end Go.Proofs.Ytekeaoolodmdaaa
