import Derived.Test.YtnmjcpoobabjgaaGreatDoorGFm
import Derived.Laws.StructEq
import Derived.Lib.Strings
import Derived.Deep.QuietTactic
import Derived.BigQuiet
set_option linter.unusedVariables false
set_option linter.unusedSimpArgs false
/- Is a list too great? The same texts, the same parts. What every right program answers. -/
namespace Go.Proofs.YtnmjcpoobabjgaaGreatDoor
set_option maxRecDepth 100000
open Go.RowKit
theorem part_at9 (w : World) (t : TypeId) (hz : (isAgg t).run Tryz.prog w = .ok false w) (X : Array Value) (o : Nat) (v : Value) (h : X[o]? = some v) : (Go.part t X o).run Tryz.prog w = .ok v w := by
  unfold Go.part
  rw [Sem.run_bind, hz, Result.andThen_ok, h]
  simp
/- the bytes of all parts ahead -/
theorem neq_pt (x : Pt) (w : World) : (binOp .neq 60 (.agg #[.bool x.d, .int .i64 x.b, .string (bs x.t)]) (.agg #[.bool x.d, .int .i64 x.b, .string (bs x.t)])).run Tryz.prog w = .ok (.bool false) w := by
  have p0 := part_at9 w 4 (Tryz.isAgg4 w) #[.bool x.d, .int .i64 x.b, .string (bs x.t)] 0 (.bool x.d) rfl
  have p1 := part_at9 w 3 (Tryz.isAgg3 w) #[.bool x.d, .int .i64 x.b, .string (bs x.t)] 1 (.int .i64 x.b) rfl
  have p2 := part_at9 w 9 (Tryz.isAgg9 w) #[.bool x.d, .int .i64 x.b, .string (bs x.t)] 2 (.string (bs x.t)) rfl
  have s0 : (Op.equalIn 9999 4 (.bool x.d) (.bool x.d)).run Tryz.prog w = .ok true w := by
    unfold Op.equalIn
    rw [Sem.run_bind, run_underlying (show Tryz.prog.underlying 4 = some .bool by kernel_rfl) w]
    simp
  have s1 : (Op.equalIn 9999 3 (.int .i64 x.b) (.int .i64 x.b)).run Tryz.prog w = .ok true w := by
    unfold Op.equalIn
    rw [Sem.run_bind, run_underlying (show Tryz.prog.underlying 3 = some (.int .i64) by kernel_rfl) w]
    simp
  have s2 := run_equalIn_string (P := Tryz.prog) w 9998 9 (bs x.t) (bs x.t) (by kernel_rfl)
  rw [show ((bs x.t).toList == (bs x.t).toList) = true by simp] at s2
  rw [run_neq_struct, run_equalIn_struct w 9999 60 _ _ (by kernel_rfl) (by kernel_rfl)]
  have hF : (Op.eqFields 9999 #[.bool x.d, .int .i64 x.b, .string (bs x.t)] #[.bool x.d, .int .i64 x.b, .string (bs x.t)] (Tryz.prog.fieldsOf 60).toList).run Tryz.prog w = .ok true w := by
    simp only [Program.fieldsOf, Tryz.underlying60]
    unfold Op.eqFields
    rw [if_pos (by decide)]
    simp only [Sem.run_bind, p0, s0, Result.andThen_ok]
    simp only [Bool.not_true, Bool.false_eq_true, if_false]
    unfold Op.eqFields
    rw [if_pos (by decide)]
    simp only [Sem.run_bind, p1, s1, Result.andThen_ok]
    simp only [Bool.not_true, Bool.false_eq_true, if_false]
    unfold Op.eqFields
    rw [if_pos (by decide)]
    simp only [Sem.run_bind, p2, s2, Result.andThen_ok]
    simp only [Bool.not_true, Bool.false_eq_true, if_false]
    unfold Op.eqFields
    rfl
  rw [hF]; rfl
set_option maxHeartbeats 1000000 in
theorem same9_any {l : List Pt} {u v : Value} {w : World} (hU : RowP w u l) (hV : RowP w v l) (hl : l.length ≤ 1000000) :
    Calls Tryz.prog 22 #[u, v] w fun e w' => e = .returned (.bool true) ∧ Below w.heap.size w w' := by
  obtain ⟨ad, cap, rfl, hc⟩ := hU.cells
  obtain ⟨ad2, cap2, rfl, hc2⟩ := hV.cells
  have HC := Lib.hid hc
  have HC2 := Lib.hid hc2
  have HN1 : Hid (∀ k W, _) := Lib.hid (fun (k : Nat) W => neq_pt (l.getD k zp) W)
  obtain ⟨n, hn⟩ : ∃ n, n = l.length := ⟨_, rfl⟩
  have HN := Lib.hid hn
  rw [← hn] at hl ⊢
  clear hc hc2 hU hV hn
  go_enter Tryz.func22, Tryz.ntmps22
  go_wp2
  go_loopw [5] (fun i wr => ∃ k : Nat, k ≤ n ∧ i = .int .i64 (k : Int) ∧ Hid (Below w.heap.size w wr)) (fun i _ => n - (intOf i).toNat)
  case atStart => exact ⟨0, Nat.zero_le _, rfl, Below.refl _ _⟩
  case round =>
    obtain ⟨k, hk, rfl, hL⟩ := hrel
    by_cases hlt : k < n
    · obtain ⟨g, o, rfl, hgl, h0, h1, h2⟩ := HC.out k (by rw [← HN.out]; exact hlt)
      obtain ⟨g2, o2, rfl, hgl2, h02, h12, h22⟩ := HC2.out k (by rw [← HN.out]; exact hlt)
      have c0 : wr.cell? ⟨g, o + k * 3, none⟩ = some (.bool (l.getD k zp).d) := by rw [hL.out.cell hgl]; exact h0
      have c1 : wr.cell? ⟨g, o + k * 3 + 1, none⟩ = some (.int .i64 (l.getD k zp).b) := by rw [hL.out.cell hgl]; exact h1
      have c2 : wr.cell? ⟨g, o + k * 3 + 2, none⟩ = some (.string (bs (l.getD k zp).t)) := by rw [hL.out.cell hgl]; exact h2
      have d0 : wr.cell? ⟨g2, o2 + k * 3, none⟩ = some (.bool (l.getD k zp).d) := by rw [hL.out.cell hgl2]; exact h02
      have d1 : wr.cell? ⟨g2, o2 + k * 3 + 1, none⟩ = some (.int .i64 (l.getD k zp).b) := by rw [hL.out.cell hgl2]; exact h12
      have d2 : wr.cell? ⟨g2, o2 + k * 3 + 2, none⟩ = some (.string (bs (l.getD k zp).t)) := by rw [hL.out.cell hgl2]; exact h22
      have N1 := HN1.out k
      have zk : (0 : Int) ≤ (k : Int) := by omega
      have yk : (k : Int) < (n : Int) := by omega
      have w5 : IntKind.i64.wrap ((k : Int) + 1) = (k : Int) + 1 := IntWalk.i64_in _ (by omega)
      have w6 : IntKind.i64.wrap (k : Int) = (k : Int) := IntWalk.i64_in _ (by omega)
      clear HC HC2 HN1 h0 h1 h2 h02 h12 h22 hgl hgl2
      generalize (l.getD k zp).d = xd at *
      generalize (l.getD k zp).b = xb at *
      generalize bs (l.getD k zp).t = sb at *
      go_wp2
      go_quiet (fail)
      go_wp2
      go_roundw
      case rel => exact ⟨k + 1, by omega, by go_num, below_drewN hL.out _⟩
      case measure => simp [intOf]; omega
    · have e : k = n := by omega
      subst e
      clear HC HC2 HN1
      go_wp2
      go_ret
      exact ⟨rfl, hL.out⟩
/- more texts than are looked at, or longer ones -/
end Go.Proofs.YtnmjcpoobabjgaaGreatDoor
