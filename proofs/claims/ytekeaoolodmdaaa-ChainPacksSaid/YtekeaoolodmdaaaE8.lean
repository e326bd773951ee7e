import Derived.Test.YtekeaoolodmdaaaE5
import Derived.Test.YtekeaoolodmdaaaE6
/- How many bytes pieces have. -/
namespace Go.Proofs.Ytekeaoolodmdaaa
set_option maxRecDepth 100000
open Go.RowKit
attribute [local go_sem] run_store_complex
set_option maxHeartbeats 2000000 in
theorem length_any (b : Nat) (l : List Pz) (v : Value) (w : World) (hb : b ≤ 4099) (hR : RowZ w v l) (hg : ∀ x ∈ l, good b x) (hs : ∀ x ∈ l, small x) (hsz : szs l ≤ 4099) :
    Calls Try.prog 45 #[.int .i64 (b : Int), v] w fun e w' => e = .returned (.tuple #[.int .i64 (szs l : Int), .int .i64 0]) ∧ Below w.heap.size w w' := by
  obtain ⟨ad, cap, rfl, hc⟩ := hR.cells
  have C1 : Hid (∀ k, k < l.length → ∀ W, Calls Try.prog 59 #[.int .i64 (b : Int), .agg #[cpv (l.getD k zz), .string (bs (l.getD k zz).t)]] W fun e w' => e = .returned (.bool true) ∧ Below W.heap.size W w') := fun k hk W => by
    have := right_any b (l.getD k zz) W hb (hs _ (getD_mem l zz k hk))
    rw [decide_eq_true (hg _ (getD_mem l zz k hk))] at this
    exact this
  have C2 : Hid (∀ k, k < l.length → ∀ W, Calls Try.prog 60 #[.agg #[cpv (l.getD k zz), .string (bs (l.getD k zz).t)]] W fun e w' => e = .returned (.int .i64 (sz (l.getD k zz) : Int)) ∧ Below W.heap.size W w') := fun k hk W => size_any (l.getD k zz) W (hs _ (getD_mem l zz k hk))
  have HC := Lib.hid hc
  have HS : Hid (∀ k, k < l.length → szs (l.take (k + 1)) = szs (l.take k) + sz (l.getD k zz)) := fun k hk => by rw [take_next l zz k hk, szs_snoc]
  have HM : Hid (∀ k, szs (l.take k) ≤ 4099) := fun k => Nat.le_trans (szs_take_le l k) hsz
  have HL : Hid (l.length ≤ 4099) := Nat.le_trans (szs_ge hg) hsz
  have t1 : ¬ (b : Int) < 0 := by omega
  have t2 : (b : Int) ≤ 4099 := by omega
  have e0 : szs (l.take l.length) = szs l := by rw [List.take_length]
  have HE := Lib.hid e0
  clear hc hg hs hsz hR hb e0
  go_enter Try.func45, Try.ntmps45
  go_wp2
  go_loopw [6, 17] (fun n i wr => ∃ k : Nat, k ≤ l.length ∧ i = .int .i64 (k : Int) ∧ n = .int .i64 (szs (l.take k) : Int) ∧ Hid (Below w.heap.size w wr)) (fun _ i _ => l.length - (intOf i).toNat)
  case atStart => exact ⟨0, Nat.zero_le _, rfl, rfl, Below.refl _ _⟩
  case round =>
    obtain ⟨k, hk, rfl, rfl, hL⟩ := hrel
    by_cases hlt : k < l.length
    · obtain ⟨g, o, rfl, hgl, h0, h1⟩ := HC.out k hlt
      have c0 : wr.cell? ⟨g, o + k * 2, none⟩ = some (cpv (l.getD k zz)) := by rw [hL.out.cell hgl]; exact h0
      have c1 : wr.cell? ⟨g, o + k * 2 + 1, none⟩ = some (.string (bs (l.getD k zz).t)) := by rw [hL.out.cell hgl]; exact h1
      have D1 : Hid (∀ W, _) := fun W => C1.out k hlt W
      have D2 : Hid (∀ W, _) := fun W => C2.out k hlt W
      have S1 := HS.out k hlt
      have M1 := HM.out (k + 1)
      have hl0 := HL.out
      have zk : (0 : Int) ≤ (k : Int) := by omega
      have yk : (k : Int) < (l.length : Int) := by omega
      unfold cpv at c0 D1 D2
      generalize FB ((l.getD k zz).p : Int) = P at *
      generalize FB ((l.getD k zz).n : Int) = N at *
      generalize bs (l.getD k zz).t = sb at *
      generalize sz (l.getD k zz) = z at *
      generalize hA : szs (l.take (k + 1)) = A at *
      generalize szs (l.take k) = A0 at *
      have w1 : IntKind.i64.wrap ((k : Int) + 1) = (k : Int) + 1 := IntWalk.i64_in _ (by omega)
      have w2 : IntKind.i64.wrap ((A0 : Int) + (z : Int)) = (A : Int) := by rw [S1]; exact IntWalk.i64_in _ (by omega)
      have HA := Lib.hid hA
      clear S1 M1 hA C1 C2 HS HM HC h0 h1 hl0 hk
      have HGL := Lib.hid hgl
      clear hgl
      have O : Hid (∀ (W : World), Below (wr.alloc (.cells #[.complex .f64 P N, .string sb] 76)).heap.size (wr.alloc (.cells #[.complex .f64 P N, .string sb] 76)) W → W.cell? ⟨wr.heap.size, 0, none⟩ = some (.complex .f64 P N) ∧ W.cell? ⟨wr.heap.size, 1, none⟩ = some (.string sb) ∧ Below w.heap.size w W) := fun W B => by
        refine ⟨?_, ?_, (hL.out.alloc hL.out.size _).trans (B.mono (by have := hL.out.size; simp; omega))⟩
        · rw [B.cell (by simp)]; exact cell_of_row _ _ _ _ _ _ (heap_alloc_new _ _)
        · rw [B.cell (by simp)]; exact cell_of_row _ _ _ _ _ _ (heap_alloc_new _ _)
      go_wp2_with fail
      refine (D1.out _).mono ?_
      rintro e w3 ⟨rfl, B3⟩
      obtain ⟨d0, d1, L3⟩ := O.out w3 B3
      have HL3 := Lib.hid L3
      clear B3 D1 c0 c1 O L3
      go_wp2_with fail
      refine (D2.out _).mono ?_
      rintro e w4 ⟨rfl, B4⟩
      have HL4 := Lib.hid (HL3.out.trans (B4.mono HL3.out.size))
      clear B4 D2 d0 d1
      go_wp2
      go_roundw
      case rel => exact ⟨k + 1, by omega, by go_num, by rw [HA.out], HL4⟩
      case measure => simp [intOf]; omega
    · have e : k = l.length := by omega
      subst e
      have M1 := HM.out l.length
      have e0 := HE.out
      rw [e0] at M1 ⊢
      have t3 : (szs l : Int) ≤ 4099 := by omega
      clear C1 C2 HS HM HC M1 e0
      go_wp2
      go_ret2
      exact ⟨rfl, hL.out⟩
end Go.Proofs.Ytekeaoolodmdaaa
