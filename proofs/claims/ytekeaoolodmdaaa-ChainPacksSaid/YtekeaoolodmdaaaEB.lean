import Derived.Test.YtekeaoolodmdaaaE8
import Derived.Test.YtekeaoolodmdaaaE9
import Derived.Test.YtekeaoolodmdaaaEA
import Derived.Test.YtekeaoolodmdaaaE1
/- The bytes, and the text, of pieces that are right. -/
namespace Go.Proofs.Ytekeaoolodmdaaa
set_option maxRecDepth 100000
open Go.RowKit
attribute [local go_sem] run_store_complex
set_option maxHeartbeats 1000000 in
theorem text_any (B : List UInt8) (l : List Pz) (v : Value) (w : World) (hb : B.length ≤ 4099) (hR : RowZ w v l) (hg : ∀ x ∈ l, good B.length x) (hs : ∀ x ∈ l, small x) (hsz : szs l ≤ 4099) :
    Calls Try.prog 57 #[.string (bs B), v] w fun e w' => e = .returned (.tuple #[.string (bs (tzs B l)), .int .i64 0]) ∧ Below w.heap.size w w' := by
  have hz := bs_size B
  have C1 : Hid (∀ W, RowZ W v l → Calls Try.prog 45 #[.int .i64 ((bs B).size : Int), v] W fun e w' => e = .returned (.tuple #[.int .i64 (szs l : Int), .int .i64 0]) ∧ Below W.heap.size W w') := fun W h => by
    rw [hz]
    exact length_any B.length l v W hb h hg hs hsz
  have C2 : Hid (∀ W, RowZ W v l → Calls Try.prog 73 #[.string (bs B), v] W fun e w' => e = .returned (.string (bs (tzs B l))) ∧ Below W.heap.size W w') := fun W h => join_any B l v W (by omega) h hg hs hsz
  have HR := Lib.hid hR
  clear hz hb hR hg hs hsz
  generalize bs B = sb at *
  go_enter Try.func57, Try.ntmps57
  go_wp2_with fail
  refine (C1.out _ HR.out).mono ?_
  rintro e w1 ⟨rfl, B1⟩
  have R1 := Lib.hid (HR.out.below B1)
  have L1 := Lib.hid B1
  clear B1 C1
  go_wp2_with fail
  refine (C2.out _ R1.out).mono ?_
  rintro e w2 ⟨rfl, B2⟩
  have L2 := Lib.hid (L1.out.trans (B2.mono L1.out.size))
  clear B2 C2
  go_wp2
  go_ret2
  exact ⟨rfl, L2.out⟩
theorem wzs_len {b : Nat} (hb : b ≤ 4099) {l : List Pz} (h : ∀ x ∈ l, good b x) : (wzs l).length ≤ l.length * 4105 := by
  induction l with
  | nil => simp [wzs]
  | cons x l ih =>
    rw [wzs_cons, List.length_append, List.length_cons]
    have h1 := ih (fun y hy => h y (by simp [hy]))
    have h2 := wz_len hb (h x (by simp))
    omega
set_option maxHeartbeats 2000000 in
theorem write_any (b : Nat) (l : List Pz) (v : Value) (w : World) (hb : b ≤ 4099) (hR : RowZ w v l) (hg : ∀ x ∈ l, good b x) (hs : ∀ x ∈ l, small x) (hsz : szs l ≤ 4099) :
    Calls Try.prog 34 #[.int .i64 (b : Int), v] w fun e w' => e = .returned (.tuple #[.string (bs (dBytes b l)), .int .i64 0]) ∧ Below w.heap.size w w' := by
  have C1 : Hid (∀ W, RowZ W v l → Calls Try.prog 45 #[.int .i64 (b : Int), v] W fun e w' => e = .returned (.tuple #[.int .i64 (szs l : Int), .int .i64 0]) ∧ Below W.heap.size W w') := fun W h => length_any b l v W hb h hg hs hsz
  have HR := Lib.hid hR
  obtain ⟨ad, cap, rfl, hc⟩ := hR.cells
  have HC := Lib.hid hc
  have hll := szs_ge hg
  have HL : Hid (l.length ≤ 4099) := Nat.le_trans hll hsz
  have hd1 := dg_le b 0 (by omega) (by omega)
  have hd2 := dg_le (szs l) 0 (by omega) (by omega)
  have HW : Hid (∀ k, k ≤ l.length → (dg b ++ dg (szs l) ++ wzs (l.take k)).length ≤ 1000000000) := fun k hk => by
    have := wzs_len hb (l := l.take k) (fun x hx => hg x (List.mem_of_mem_take hx))
    rw [List.length_take] at this
    rw [List.length_append, List.length_append]
    have h2 : min k l.length * 4105 ≤ 4099 * 4105 := Nat.mul_le_mul_right _ (by omega)
    omega
  have C2 : Hid (∀ k, k < l.length → ∀ K W h, Wr K W h (dg b ++ dg (szs l) ++ wzs (l.take k)) → Calls Try.prog 47 #[.pointer (some ⟨h, 0, none⟩), .agg #[cpv (l.getD k zz), .string (bs (l.getD k zz).t)]] W fun e w' => e = .returned (.tuple #[]) ∧ Wr K w' h (dg b ++ dg (szs l) ++ wzs (l.take (k + 1))) ∧ Keep K W w') := fun k hk K W h hw => by
    have := writepiece_any (l.getD k zz) hb (hg _ (getD_mem l zz k hk)) (hs _ (getD_mem l zz k hk)) hw (HW.out k (by omega))
    rw [List.append_assoc, ← wzs_snoc, ← take_next l zz k hk] at this
    exact this
  have NUM : Hid (∀ (K1 : Nat → Prop) W c h, Wr K1 W h [] → K1 c → W.cell? ⟨c, 0, none⟩ = some (.int .i64 (b : Int)) → W.cell? ⟨c, 1, none⟩ = some (.int .i64 (szs l : Int)) → Calls Try.prog 46 #[.pointer (some ⟨h, 0, none⟩), .slice (some ⟨c, 0, none⟩) 2 2] W fun e w' => e = .returned (.tuple #[]) ∧ Wr K1 w' h (dg b ++ dg (szs l) ++ wzs (l.take 0)) ∧ Keep K1 W w') := fun K1 W c h h1 h2 h3 h4 => by
    have := wnum2_any b (szs l) c (by omega) (by omega) h1 h2 h3 h4 (by simp)
    rw [List.nil_append] at this
    rw [List.take_zero, show wzs [] = [] from rfl, List.append_nil]
    exact this
  have STR : Hid (∀ (K1 : Nat → Prop) W h, Wr K1 W h (dg b ++ dg (szs l) ++ wzs (l.take l.length)) → Calls Try.prog 48 #[.pointer (some ⟨h, 0, none⟩)] W fun e w' => e = .returned (.string (bs (dBytes b l))) ∧ W = w') := fun K1 W h h1 => by
    have := wstr_any h1
    rw [List.take_length] at this
    exact this
  clear hc hg hs hsz hR hb hll hd1 hd2 HW
  go_enter Try.func34, Try.ntmps34
  go_wp2_with fail
  refine (C1.out _ HR.out).mono ?_
  rintro e w1 ⟨rfl, B1⟩
  have L1 := Lib.hid B1
  have N1 : Hid (Wr (fun k => k < w1.heap.size ∨ k = w1.heap.size + 1) ((w1.alloc (.cells #[.slice none 0 0] 91)).alloc (.cells #[.int .i64 (b : Int), .int .i64 (szs l : Int)] 3)) w1.heap.size []) := by
    show Wr _ _ _ _
    have := (Wr.new (K := fun k => k < w1.heap.size) (w := w1) (fun k h => h)).add (.cells #[.int .i64 (b : Int), .int .i64 (szs l : Int)] 3)
    simpa using this
  clear B1 C1
  go_wp2_with fail
  refine (NUM.out _ _ _ _ N1.out (Or.inr rfl) (cell_of_row _ _ _ _ _ _ (heap_alloc2_new _ _ _)) (cell_of_row _ _ _ _ _ _ (heap_alloc2_new _ _ _))).mono ?_
  rintro e w2 ⟨rfl, W2, K2⟩
  have z1 := L1.out.size
  have HW2 := Lib.hid (W2.mono (K' := fun k => k < w.heap.size) (fun k hk => Or.inl (by omega)))
  have HK2 : Hid (Keep (fun k => k < w.heap.size) w w2) := (((Keep.of_below (K := fun k => k < w.heap.size) L1.out (fun k hk _ => hk)).alloc _).alloc _).trans (K2.mono (fun k hk _ => Or.inl (by omega)))
  clear W2 K2 NUM N1 z1
  go_wp2
  go_loopw [26] (fun i wr => ∃ k : Nat, k ≤ l.length ∧ i = .int .i64 (k : Int) ∧ Hid (Wr (fun k => k < w.heap.size) wr w1.heap.size (dg b ++ dg (szs l) ++ wzs (l.take k))) ∧ Hid (Keep (fun k => k < w.heap.size) w wr)) (fun i _ => l.length - (intOf i).toNat)
  case atStart => exact ⟨0, Nat.zero_le _, rfl, HW2, HK2⟩
  case round =>
    obtain ⟨k, hk, rfl, hW, hK⟩ := hrel
    by_cases hlt : k < l.length
    · obtain ⟨g, o, rfl, hgl, h0, h1⟩ := HC.out k hlt
      have c0 : wr.cell? ⟨g, o + k * 2, none⟩ = some (cpv (l.getD k zz)) := hK.out.cell hgl h0
      have c1 : wr.cell? ⟨g, o + k * 2 + 1, none⟩ = some (.string (bs (l.getD k zz).t)) := hK.out.cell hgl h1
      have D1 := Lib.hid (C2.out k hlt)
      have hl0 := HL.out
      have zk : (0 : Int) ≤ (k : Int) := by omega
      have yk : (k : Int) < (l.length : Int) := by omega
      have w5 : IntKind.i64.wrap ((k : Int) + 1) = (k : Int) + 1 := IntWalk.i64_in _ (by omega)
      unfold cpv at c0 D1
      generalize FB ((l.getD k zz).p : Int) = P at *
      generalize FB ((l.getD k zz).n : Int) = N at *
      generalize bs (l.getD k zz).t = sb at *
      clear C2 HC HW2 HK2 h0 h1 hl0 hk
      go_wp2_with fail
      refine (D1.out _ _ _ (hW.out.alloc _)).mono ?_
      rintro e w3 ⟨rfl, W3, K3⟩
      have HW3 := Lib.hid W3
      have HK3 := Lib.hid ((hK.out.alloc _).trans K3)
      clear W3 K3 D1 hW hK c0 c1
      go_wp2
      go_roundw
      case rel => exact ⟨k + 1, by omega, by go_num, HW3, HK3⟩
      case measure => simp [intOf]; omega
    · have e : k = l.length := by omega
      subst e
      have D := Lib.hid (STR.out _ _ _ hW.out)
      clear C2 HC HW2 HK2 STR
      go_wp2_with fail
      refine D.out.mono ?_
      rintro e w3 ⟨rfl, rfl⟩
      have LL := Lib.hid (hK.out.below (Nat.le_refl _))
      clear D hW hK
      go_wp2
      go_ret2
      exact ⟨rfl, LL.out⟩
end Go.Proofs.Ytekeaoolodmdaaa
