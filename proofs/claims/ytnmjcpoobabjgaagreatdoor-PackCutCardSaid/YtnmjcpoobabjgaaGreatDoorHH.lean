import Derived.Test.YtnmjcpoobabjgaaGreatDoorGFm
import Derived.Laws.StructEq
import Derived.Lib.Strings
import Derived.Deep.QuietTactic
import Derived.BigQuiet
set_option linter.unusedVariables false
set_option linter.unusedSimpArgs false
/- Is a list too great? The same texts, the same parts. What every right program answers. -/
namespace Go.Proofs.YtnmjcpoobabjgaaGreatDoor
set_option maxRecDepth 100000
open Go.RowKit
theorem part_at9 (w : World) (t : TypeId) (hz : (isAgg t).run Tryz.prog w = .ok false w) (X : Array Value) (o : Nat) (v : Value) (h : X[o]? = some v) : (Go.part t X o).run Tryz.prog w = .ok v w := by
  unfold Go.part
  rw [Sem.run_bind, hz, Result.andThen_ok, h]
  simp
/- the bytes of all parts ahead -/
def sumT (l : List Pt) (k : Nat) : Nat := ((l.take k).map (fun x => x.t.length)).sum
theorem sumT_succ (l : List Pt) (k : Nat) (h : k < l.length) : sumT l (k + 1) = sumT l k + (l.getD k zp).t.length := by
  unfold sumT
  rw [take_next l zp k h]
  simp
theorem sumT_le (l : List Pt) (k : Nat) : sumT l k ≤ sumT l l.length := by
  unfold sumT
  rw [List.take_length]
  have h := List.take_append_drop k l
  have e : (l.map (fun x => x.t.length)).sum = ((l.take k).map (fun x => x.t.length)).sum + ((l.drop k).map (fun x => x.t.length)).sum := by
    have h2 := congrArg (fun z : List Pt => (z.map (fun x => x.t.length)).sum) h
    simp only [List.map_append, List.sum_append] at h2
    exact h2.symm
  omega
def greatP (l : List Pt) : Bool := decide (210 < l.length) || decide (30000 < sumT l l.length)
theorem greatP_no {l : List Pt} (h : greatP l = false) : l.length ≤ 210 ∧ ∀ x ∈ l, x.t.length ≤ 30000 := by
  unfold greatP at h
  simp only [Bool.or_eq_false_iff, decide_eq_false_iff_not] at h
  refine ⟨by omega, fun x hx => ?_⟩
  obtain ⟨k, hk, rfl⟩ := List.getElem_of_mem hx
  have h1 := sumT_succ l k hk
  have h2 := sumT_le l (k + 1)
  have e : l.getD k zp = l[k] := by rw [List.getD_eq_getElem?_getD, List.getElem?_eq_getElem hk]; rfl
  rw [e] at h1
  omega
set_option maxHeartbeats 1000000 in
theorem great9_any {l : List Pt} {v : Value} {w : World} (hv : RowP w v l) (ht : ∀ x ∈ l, x.t.length ≤ 140737488355328) (hs : l.length ≤ 9223372036854775807) :
    Calls Tryz.prog 8 #[v] w fun e w' => e = .returned (.bool (greatP l)) ∧ Below w.heap.size w w' := by
  obtain ⟨ad, cap, rfl, hc⟩ := RowP.cells hv
  have HC := Lib.hid hc
  have HT := Lib.hid ht
  obtain ⟨n, hn⟩ : ∃ n, n = l.length := ⟨_, rfl⟩
  have HN := Lib.hid hn
  rw [← hn] at hs ⊢
  clear hc ht hv hn
  by_cases h1 : 210 < n
  · have e : greatP l = true := by unfold greatP; rw [← HN.out, decide_eq_true h1]; rfl
    rw [e]
    have t1 : (210 : Int) < (n : Int) := by omega
    clear e h1
    go_enter Tryz.func8, Tryz.ntmps8
    go_wp2
    go_ret
    exact ⟨rfl, Below.refl _ _⟩
  · have e : greatP l = decide (30000 < sumT l n) := by unfold greatP; rw [← HN.out, decide_eq_false h1]; rfl
    rw [e]
    have t1 : (n : Int) ≤ 210 := by omega
    clear e h1
    go_enter Tryz.func8, Tryz.ntmps8
    go_wp2
    go_loopw [3, 4] (fun s i wr => ∃ k : Nat, k ≤ n ∧ i = .int .i64 (k : Int) ∧ s = .int .i64 (sumT l k : Int) ∧ Hid (sumT l k ≤ 30000) ∧ w = wr) (fun _ i _ => n - (intOf i).toNat)
    case atStart => exact ⟨0, Nat.zero_le _, rfl, rfl, by show sumT l 0 ≤ 30000; simp [sumT], rfl⟩
    case round =>
      obtain ⟨k, hk, rfl, rfl, hE, rfl⟩ := hrel
      by_cases hlt : k < n
      · obtain ⟨b, o, rfl, hb, c0, c1, c2⟩ := HC.out k (by rw [← HN.out]; exact hlt)
        have hx := HT.out _ (getD_mem l zp k (by rw [← HN.out]; exact hlt))
        have hz := bs_size (l.getD k zp).t
        have hS := sumT_succ l k (by rw [← HN.out]; exact hlt)
        have hle := sumT_le l (k + 1)
        rw [← HN.out] at hle
        obtain ⟨m, hm⟩ : ∃ m, m = (l.getD k zp).t.length := ⟨_, rfl⟩
        rw [← hm] at hx hz hS
        generalize bs (l.getD k zp).t = sb at *
        have zk : (0 : Int) ≤ (k : Int) := by omega
        have yk : (k : Int) < (n : Int) := by omega
        have hE' := hE.out
        obtain ⟨s0, hs0⟩ : ∃ s0, s0 = sumT l k := ⟨_, rfl⟩
        obtain ⟨s1, hs1⟩ : ∃ s1, s1 = sumT l (k + 1) := ⟨_, rfl⟩
        rw [← hs0] at hE' hS
        rw [← hs1] at hS hle
        rw [← hs0]
        have w5 : IntKind.i64.wrap ((s0 : Int) + (sb.size : Int)) = (s1 : Int) := by
          rw [IntWalk.i64_in _ (by omega)]; omega
        have w6 : IntKind.i64.wrap ((k : Int) + 1) = (k : Int) + 1 := IntWalk.i64_in _ (by omega)
        have HS1 := Lib.hid hs1
        have HLE := Lib.hid hle
        by_cases hg : 30000 < s1
        · have t2 : (30000 : Int) < (s1 : Int) := by omega
          have e : Hid (decide (30000 < sumT l n) = true) := by show _ = _; exact decide_eq_true (by omega)
          clear hS hle hE' hs0 hs1 hz hm hx hE hg c0 c1
          go_wp2
          go_ret
          exact ⟨by rw [e.out]; rfl, Below.refl _ _⟩
        · have t2 : (s1 : Int) ≤ 30000 := by omega
          have HG : Hid (s1 ≤ 30000) := by show _ ≤ _; omega
          clear hS hle hE' hs0 hs1 hz hm hx hE hg c0 c1
          go_wp2
          go_roundw
          case rel => exact ⟨k + 1, by omega, by go_num, by rw [← HS1.out], by rw [← HS1.out]; exact HG.out, trivial⟩
          case measure => simp [intOf]; omega
      · have e : k = n := by omega
        subst e
        have hE' := hE.out
        have e : Hid (decide (30000 < sumT l k) = false) := by show _ = _; exact decide_eq_false (by omega)
        clear hE'
        go_wp2
        go_ret
        exact ⟨by rw [e.out]; rfl, Below.refl _ _⟩
theorem neq_pt (x : Pt) (w : World) : (binOp .neq 60 (.agg #[.bool x.d, .int .i64 x.b, .string (bs x.t)]) (.agg #[.bool x.d, .int .i64 x.b, .string (bs x.t)])).run Tryz.prog w = .ok (.bool false) w := by
  have p0 := part_at9 w 4 (Tryz.isAgg4 w) #[.bool x.d, .int .i64 x.b, .string (bs x.t)] 0 (.bool x.d) rfl
  have p1 := part_at9 w 3 (Tryz.isAgg3 w) #[.bool x.d, .int .i64 x.b, .string (bs x.t)] 1 (.int .i64 x.b) rfl
  have p2 := part_at9 w 9 (Tryz.isAgg9 w) #[.bool x.d, .int .i64 x.b, .string (bs x.t)] 2 (.string (bs x.t)) rfl
  have s0 : (Op.equalIn 9999 4 (.bool x.d) (.bool x.d)).run Tryz.prog w = .ok true w := by
    unfold Op.equalIn
    rw [Sem.run_bind, run_underlying (show Tryz.prog.underlying 4 = some .bool by kernel_rfl) w]
    simp
  have s1 : (Op.equalIn 9999 3 (.int .i64 x.b) (.int .i64 x.b)).run Tryz.prog w = .ok true w := by
    unfold Op.equalIn
    rw [Sem.run_bind, run_underlying (show Tryz.prog.underlying 3 = some (.int .i64) by kernel_rfl) w]
    simp
  have s2 := run_equalIn_string (P := Tryz.prog) w 9998 9 (bs x.t) (bs x.t) (by kernel_rfl)
  rw [show ((bs x.t).toList == (bs x.t).toList) = true by simp] at s2
  rw [run_neq_struct, run_equalIn_struct w 9999 60 _ _ (by kernel_rfl) (by kernel_rfl)]
  have hF : (Op.eqFields 9999 #[.bool x.d, .int .i64 x.b, .string (bs x.t)] #[.bool x.d, .int .i64 x.b, .string (bs x.t)] (Tryz.prog.fieldsOf 60).toList).run Tryz.prog w = .ok true w := by
    simp only [Program.fieldsOf, Tryz.underlying60]
    unfold Op.eqFields
    rw [if_pos (by decide)]
    simp only [Sem.run_bind, p0, s0, Result.andThen_ok]
    simp only [Bool.not_true, Bool.false_eq_true, if_false]
    unfold Op.eqFields
    rw [if_pos (by decide)]
    simp only [Sem.run_bind, p1, s1, Result.andThen_ok]
    simp only [Bool.not_true, Bool.false_eq_true, if_false]
    unfold Op.eqFields
    rw [if_pos (by decide)]
    simp only [Sem.run_bind, p2, s2, Result.andThen_ok]
    simp only [Bool.not_true, Bool.false_eq_true, if_false]
    unfold Op.eqFields
    rfl
  rw [hF]; rfl
set_option maxHeartbeats 1000000 in
theorem same9_any {l : List Pt} {u v : Value} {w : World} (hU : RowP w u l) (hV : RowP w v l) (hl : l.length ≤ 1000000) :
    Calls Tryz.prog 22 #[u, v] w fun e w' => e = .returned (.bool true) ∧ Below w.heap.size w w' := by
  obtain ⟨ad, cap, rfl, hc⟩ := hU.cells
  obtain ⟨ad2, cap2, rfl, hc2⟩ := hV.cells
  have HC := Lib.hid hc
  have HC2 := Lib.hid hc2
  have HN1 : Hid (∀ k W, _) := Lib.hid (fun (k : Nat) W => neq_pt (l.getD k zp) W)
  obtain ⟨n, hn⟩ : ∃ n, n = l.length := ⟨_, rfl⟩
  have HN := Lib.hid hn
  rw [← hn] at hl ⊢
  clear hc hc2 hU hV hn
  go_enter Tryz.func22, Tryz.ntmps22
  go_wp2
  go_loopw [5] (fun i wr => ∃ k : Nat, k ≤ n ∧ i = .int .i64 (k : Int) ∧ Hid (Below w.heap.size w wr)) (fun i _ => n - (intOf i).toNat)
  case atStart => exact ⟨0, Nat.zero_le _, rfl, Below.refl _ _⟩
  case round =>
    obtain ⟨k, hk, rfl, hL⟩ := hrel
    by_cases hlt : k < n
    · obtain ⟨g, o, rfl, hgl, h0, h1, h2⟩ := HC.out k (by rw [← HN.out]; exact hlt)
      obtain ⟨g2, o2, rfl, hgl2, h02, h12, h22⟩ := HC2.out k (by rw [← HN.out]; exact hlt)
      have c0 : wr.cell? ⟨g, o + k * 3, none⟩ = some (.bool (l.getD k zp).d) := by rw [hL.out.cell hgl]; exact h0
      have c1 : wr.cell? ⟨g, o + k * 3 + 1, none⟩ = some (.int .i64 (l.getD k zp).b) := by rw [hL.out.cell hgl]; exact h1
      have c2 : wr.cell? ⟨g, o + k * 3 + 2, none⟩ = some (.string (bs (l.getD k zp).t)) := by rw [hL.out.cell hgl]; exact h2
      have d0 : wr.cell? ⟨g2, o2 + k * 3, none⟩ = some (.bool (l.getD k zp).d) := by rw [hL.out.cell hgl2]; exact h02
      have d1 : wr.cell? ⟨g2, o2 + k * 3 + 1, none⟩ = some (.int .i64 (l.getD k zp).b) := by rw [hL.out.cell hgl2]; exact h12
      have d2 : wr.cell? ⟨g2, o2 + k * 3 + 2, none⟩ = some (.string (bs (l.getD k zp).t)) := by rw [hL.out.cell hgl2]; exact h22
      have N1 := HN1.out k
      have zk : (0 : Int) ≤ (k : Int) := by omega
      have yk : (k : Int) < (n : Int) := by omega
      have w5 : IntKind.i64.wrap ((k : Int) + 1) = (k : Int) + 1 := IntWalk.i64_in _ (by omega)
      have w6 : IntKind.i64.wrap (k : Int) = (k : Int) := IntWalk.i64_in _ (by omega)
      clear HC HC2 HN1 h0 h1 h2 h02 h12 h22 hgl hgl2
      generalize (l.getD k zp).d = xd at *
      generalize (l.getD k zp).b = xb at *
      generalize bs (l.getD k zp).t = sb at *
      go_wp2
      go_quiet (fail)
      go_wp2
      go_roundw
      case rel => exact ⟨k + 1, by omega, by go_num, below_drewN hL.out _⟩
      case measure => simp [intOf]; omega
    · have e : k = n := by omega
      subst e
      clear HC HC2 HN1
      go_wp2
      go_ret
      exact ⟨rfl, hL.out⟩
/- more texts than are looked at, or longer ones -/
def manyB (T : List (List UInt8)) (nb : Nat) : Bool := decide (40 < T.length) || decide (210 < nb) || T.any (fun x => decide (300 < x.length))
theorem manyB_no {T : List (List UInt8)} {nb : Nat} (h : manyB T nb = false) : T.length ≤ 40 ∧ nb ≤ 210 ∧ ∀ x ∈ T, x.length ≤ 300 := by
  unfold manyB at h
  simp only [Bool.or_eq_false_iff, decide_eq_false_iff_not, List.any_eq_false, decide_eq_true_eq] at h
  exact ⟨by omega, by omega, fun x hx => by have := h.2 x hx; omega⟩
end Go.Proofs.YtnmjcpoobabjgaaGreatDoor
