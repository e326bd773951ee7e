import Derived.Test.YtdfoejgkjfklcaaE6
import Derived.Test.YtdfoejgkjfklcaaE3
import Derived.Test.YtdfoejgkjfklcaaV4
import Derived.Laws.StructEq
import Derived.Lib.Strings
/- The same pieces. -/
namespace Go.Proofs.Ytdfoejgkjfklcaa
set_option maxRecDepth 100000
open Go.RowKit
theorem part_at (w : World) (t : TypeId) (hz : (isAgg t).run Try.prog w = .ok false w) (X : Array Value) (o : Nat) (v : Value) (h : X[o]? = some v) : (Go.part t X o).run Try.prog w = .ok v w := by
  unfold Go.part
  rw [Sem.run_bind, hz, Result.andThen_ok, h]
  simp
theorem eq_c128 (w : World) (d : Nat) (p n : Nat) (hp : p ≤ 1099511627775) (hn : n ≤ 1099511627775) : (Op.equalIn (d + 1) 43 (.complex .f64 (FB (p : Int)) (FB (n : Int))) (.complex .f64 (FB (p : Int)) (FB (n : Int)))).run Try.prog w = .ok true w := by
  have h : (Op.equalIn (d + 1) 43 (.complex .f64 (FB (p : Int)) (FB (n : Int))) (.complex .f64 (FB (p : Int)) (FB (n : Int)))).run Try.prog w = .ok (Op.floatEq .f64 (FB (p : Int)) (FB (p : Int)) && Op.floatEq .f64 (FB (n : Int)) (FB (n : Int))) w := by
    unfold Op.equalIn
    rw [Sem.run_bind, run_underlying (show Try.prog.underlying 43 = some (.complex .f64) by kernel_rfl) w]
    rfl
  have h1 : Op.floatEq .f64 (FB (p : Int)) (FB (p : Int)) = true := by
    have := eq_FB (p : Int) (p : Int) (by omega) (by omega)
    rw [decide_eq_true rfl] at this
    exact this
  have h2 : Op.floatEq .f64 (FB (n : Int)) (FB (n : Int)) = true := by
    have := eq_FB (n : Int) (n : Int) (by omega) (by omega)
    rw [decide_eq_true rfl] at this
    exact this
  rw [h, h1, h2]; rfl
theorem neq_pz (x : Pz) (hs : small x) (w : World) : (binOp .neq 45 (.agg #[cpv x, .string (bs x.t)]) (.agg #[cpv x, .string (bs x.t)])).run Try.prog w = .ok (.bool false) w := by
  have p0 := part_at w 43 (Try.isAgg43 w) #[cpv x, .string (bs x.t)] 0 (cpv x) rfl
  have p1 := part_at w 9 (Try.isAgg9 w) #[cpv x, .string (bs x.t)] 1 (.string (bs x.t)) rfl
  have s0 := eq_c128 w 9998 x.p x.n hs.1 hs.2
  have s1 := run_equalIn_string (P := Try.prog) w 9998 9 (bs x.t) (bs x.t) (by kernel_rfl)
  rw [show ((bs x.t).toList == (bs x.t).toList) = true by simp] at s1
  rw [run_neq_struct, run_equalIn_struct w 9999 45 _ _ (by kernel_rfl) (by kernel_rfl)]
  have hF : (Op.eqFields 9999 #[cpv x, .string (bs x.t)] #[cpv x, .string (bs x.t)] (Try.prog.fieldsOf 45).toList).run Try.prog w = .ok true w := by
    simp only [Program.fieldsOf, Try.underlying45]
    unfold Op.eqFields
    rw [if_pos (by decide)]
    unfold cpv at p0 ⊢
    simp only [Sem.run_bind, p0, s0, Result.andThen_ok]
    simp only [Bool.not_true, Bool.false_eq_true, if_false]
    unfold Op.eqFields
    rw [if_pos (by decide)]
    unfold cpv at p1
    simp only [Sem.run_bind, p1, s1, Result.andThen_ok]
    simp only [Bool.not_true, Bool.false_eq_true, if_false]
    unfold Op.eqFields
    rfl
  rw [hF]; rfl
set_option maxHeartbeats 1000000 in
theorem same_any (l : List Pz) (u v : Value) (w : World) (hU : RowZ w u l) (hV : RowZ w v l) (hs : ∀ x ∈ l, small x) (hl : l.length ≤ 1000000) :
    Calls Try.prog 8 #[u, v] w fun e w' => e = .returned (.bool true) ∧ Below w.heap.size w w' := by
  obtain ⟨ad, cap, rfl, hc⟩ := hU.cells
  obtain ⟨ad2, cap2, rfl, hc2⟩ := hV.cells
  have HC := Lib.hid hc
  have HC2 := Lib.hid hc2
  have HN : Hid (∀ k, k < l.length → ∀ W, _) := Lib.hid (fun k (hk : k < l.length) W => neq_pz (l.getD k zz) (hs _ (getD_mem l zz k hk)) W)
  have HL := Lib.hid hl
  clear hc hc2 hU hV hs hl
  go_enter Try.func8, Try.ntmps8
  go_wp2
  go_loopw [5] (fun i wr => ∃ k : Nat, k ≤ l.length ∧ i = .int .i64 (k : Int) ∧ Hid (Below w.heap.size w wr)) (fun i _ => l.length - (intOf i).toNat)
  case atStart => exact ⟨0, Nat.zero_le _, rfl, Below.refl _ _⟩
  case round =>
    obtain ⟨k, hk, rfl, hL⟩ := hrel
    by_cases hlt : k < l.length
    · obtain ⟨g, o, rfl, hgl, h0, h1⟩ := HC.out k hlt
      obtain ⟨g2, o2, rfl, hgl2, h02, h12⟩ := HC2.out k hlt
      have c0 : wr.cell? ⟨g, o + k * 2, none⟩ = some (cpv (l.getD k zz)) := by rw [hL.out.cell hgl]; exact h0
      have c1 : wr.cell? ⟨g, o + k * 2 + 1, none⟩ = some (.string (bs (l.getD k zz).t)) := by rw [hL.out.cell hgl]; exact h1
      have c2 : wr.cell? ⟨g2, o2 + k * 2, none⟩ = some (cpv (l.getD k zz)) := by rw [hL.out.cell hgl2]; exact h02
      have c3 : wr.cell? ⟨g2, o2 + k * 2 + 1, none⟩ = some (.string (bs (l.getD k zz).t)) := by rw [hL.out.cell hgl2]; exact h12
      have N1 := HN.out k hlt
      have hl0 := HL.out
      have zk : (0 : Int) ≤ (k : Int) := by omega
      have yk : (k : Int) < (l.length : Int) := by omega
      have w5 : IntKind.i64.wrap ((k : Int) + 1) = (k : Int) + 1 := IntWalk.i64_in _ (by omega)
      have w6 : IntKind.i64.wrap (k : Int) = (k : Int) := IntWalk.i64_in _ (by omega)
      clear HC HC2 HN h0 h1 h02 h12 hl0 hgl hgl2
      generalize cpv (l.getD k zz) = cv at *
      generalize bs (l.getD k zz).t = sb at *
      go_wp2
      go_quiet (fail)
      go_wp2
      go_roundw
      case rel => exact ⟨k + 1, by omega, by go_num, below_drewN hL.out _⟩
      case measure => simp [intOf]; omega
    · have e : k = l.length := by omega
      subst e
      clear HC HC2 HN
      go_wp2
      go_ret
      exact ⟨rfl, hL.out⟩
end Go.Proofs.Ytdfoejgkjfklcaa
