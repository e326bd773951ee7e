import Derived.Test.YtekeaoolodmdaaaHFm
import Derived.Laws.StructEq
import Derived.Lib.Strings
import Derived.Deep.QuietTactic
import Derived.BigQuiet
/- Is a list too great? The same texts, the same parts. What every right program answers. -/
namespace Go.Proofs.Ytekeaoolodmdaaa
set_option maxRecDepth 100000
open Go.RowKit
theorem part_at9 (w : World) (t : TypeId) (hz : (isAgg t).run Try.prog w = .ok false w) (X : Array Value) (o : Nat) (v : Value) (h : X[o]? = some v) : (Go.part t X o).run Try.prog w = .ok v w := by
  unfold Go.part
  rw [Sem.run_bind, hz, Result.andThen_ok, h]
  simp
/- the bytes of all parts ahead -/
def sumT (l : List Pt) (k : Nat) : Nat := ((l.take k).map (fun x => x.t.length)).sum
theorem sumT_succ (l : List Pt) (k : Nat) (h : k < l.length) : sumT l (k + 1) = sumT l k + (l.getD k zp).t.length := by
  unfold sumT
  rw [take_next l zp k h]
  simp
theorem sumT_le (l : List Pt) (k : Nat) : sumT l k ≤ sumT l l.length := by
  unfold sumT
  rw [List.take_length]
  have h := List.take_append_drop k l
  have e : (l.map (fun x => x.t.length)).sum = ((l.take k).map (fun x => x.t.length)).sum + ((l.drop k).map (fun x => x.t.length)).sum := by
    have h2 := congrArg (fun z : List Pt => (z.map (fun x => x.t.length)).sum) h
    simp only [List.map_append, List.sum_append] at h2
    exact h2.symm
  omega
def greatP (l : List Pt) : Bool := decide (210 < l.length) || decide (30000 < sumT l l.length)
theorem greatP_no {l : List Pt} (h : greatP l = false) : l.length ≤ 210 ∧ ∀ x ∈ l, x.t.length ≤ 30000 := by
  unfold greatP at h
  simp only [Bool.or_eq_false_iff, decide_eq_false_iff_not] at h
  refine ⟨by omega, fun x hx => ?_⟩
  obtain ⟨k, hk, rfl⟩ := List.getElem_of_mem hx
  have h1 := sumT_succ l k hk
  have h2 := sumT_le l (k + 1)
  have e : l.getD k zp = l[k] := by rw [List.getD_eq_getElem?_getD, List.getElem?_eq_getElem hk]; rfl
  rw [e] at h1
  omega
set_option maxHeartbeats 1000000 in
theorem great9_any {l : List Pt} {v : Value} {w : World} (hv : RowP w v l) (ht : ∀ x ∈ l, x.t.length ≤ 140737488355328) (hs : l.length ≤ 9223372036854775807) :
    Calls Try.prog 9 #[v] w fun e w' => e = .returned (.bool (greatP l)) ∧ Below w.heap.size w w' := by
  obtain ⟨ad, cap, rfl, hc⟩ := RowP.cells hv
  have HC := Lib.hid hc
  have HT := Lib.hid ht
  obtain ⟨n, hn⟩ : ∃ n, n = l.length := ⟨_, rfl⟩
  have HN := Lib.hid hn
  rw [← hn] at hs ⊢
  clear hc ht hv hn
  by_cases h1 : 210 < n
  · have e : greatP l = true := by unfold greatP; rw [← HN.out, decide_eq_true h1]; rfl
    rw [e]
    have t1 : (210 : Int) < (n : Int) := by omega
    clear e h1
    go_enter Try.func9, Try.ntmps9
    go_wp2
    go_ret
    exact ⟨rfl, Below.refl _ _⟩
  · have e : greatP l = decide (30000 < sumT l n) := by unfold greatP; rw [← HN.out, decide_eq_false h1]; rfl
    rw [e]
    have t1 : (n : Int) ≤ 210 := by omega
    clear e h1
    go_enter Try.func9, Try.ntmps9
    go_wp2
    go_loopw [3, 4] (fun s i wr => ∃ k : Nat, k ≤ n ∧ i = .int .i64 (k : Int) ∧ s = .int .i64 (sumT l k : Int) ∧ Hid (sumT l k ≤ 30000) ∧ w = wr) (fun _ i _ => n - (intOf i).toNat)
    case atStart => exact ⟨0, Nat.zero_le _, rfl, rfl, by show sumT l 0 ≤ 30000; simp [sumT], rfl⟩
    case round =>
      obtain ⟨k, hk, rfl, rfl, hE, rfl⟩ := hrel
      by_cases hlt : k < n
      · obtain ⟨b, o, rfl, hb, c0, c1, c2⟩ := HC.out k (by rw [← HN.out]; exact hlt)
        have hx := HT.out _ (getD_mem l zp k (by rw [← HN.out]; exact hlt))
        have hz := bs_size (l.getD k zp).t
        have hS := sumT_succ l k (by rw [← HN.out]; exact hlt)
        have hle := sumT_le l (k + 1)
        rw [← HN.out] at hle
        obtain ⟨m, hm⟩ : ∃ m, m = (l.getD k zp).t.length := ⟨_, rfl⟩
        rw [← hm] at hx hz hS
        generalize bs (l.getD k zp).t = sb at *
        have zk : (0 : Int) ≤ (k : Int) := by omega
        have yk : (k : Int) < (n : Int) := by omega
        have hE' := hE.out
        obtain ⟨s0, hs0⟩ : ∃ s0, s0 = sumT l k := ⟨_, rfl⟩
        obtain ⟨s1, hs1⟩ : ∃ s1, s1 = sumT l (k + 1) := ⟨_, rfl⟩
        rw [← hs0] at hE' hS
        rw [← hs1] at hS hle
        rw [← hs0]
        have w5 : IntKind.i64.wrap ((s0 : Int) + (sb.size : Int)) = (s1 : Int) := by
          rw [IntWalk.i64_in _ (by omega)]; omega
        have w6 : IntKind.i64.wrap ((k : Int) + 1) = (k : Int) + 1 := IntWalk.i64_in _ (by omega)
        have HS1 := Lib.hid hs1
        have HLE := Lib.hid hle
        by_cases hg : 30000 < s1
        · have t2 : (30000 : Int) < (s1 : Int) := by omega
          have e : Hid (decide (30000 < sumT l n) = true) := by show _ = _; exact decide_eq_true (by omega)
          clear hS hle hE' hs0 hs1 hz hm hx hE hg c0 c1
          go_wp2
          go_ret
          exact ⟨by rw [e.out]; rfl, Below.refl _ _⟩
        · have t2 : (s1 : Int) ≤ 30000 := by omega
          have HG : Hid (s1 ≤ 30000) := by show _ ≤ _; omega
          clear hS hle hE' hs0 hs1 hz hm hx hE hg c0 c1
          go_wp2
          go_roundw
          case rel => exact ⟨k + 1, by omega, by go_num, by rw [← HS1.out], by rw [← HS1.out]; exact HG.out, trivial⟩
          case measure => simp [intOf]; omega
      · have e : k = n := by omega
        subst e
        have hE' := hE.out
        have e : Hid (decide (30000 < sumT l k) = false) := by show _ = _; exact decide_eq_false (by omega)
        clear hE'
        go_wp2
        go_ret
        exact ⟨by rw [e.out]; rfl, Below.refl _ _⟩
set_option maxHeartbeats 1000000 in
theorem sametexts9_any {l : List (List UInt8)} {u v : Value} {w : World} (hU : RowS w u l) (hV : RowS w v l) (hl : l.length ≤ 1000000) :
    Calls Try.prog 17 #[u, v] w fun e w' => e = .returned (.bool true) ∧ Below w.heap.size w w' := by
  obtain ⟨ad, cap, rfl, hc⟩ := hU.cells
  obtain ⟨ad2, cap2, rfl, hc2⟩ := hV.cells
  have HC := Lib.hid hc
  have HC2 := Lib.hid hc2
  obtain ⟨n, hn⟩ : ∃ n, n = l.length := ⟨_, rfl⟩
  have HN := Lib.hid hn
  rw [← hn] at hl ⊢
  clear hc hc2 hU hV hn
  go_enter Try.func17, Try.ntmps17
  go_wp2
  go_loopw [5] (fun i wr => ∃ k : Nat, k ≤ n ∧ i = .int .i64 (k : Int) ∧ Hid (Below w.heap.size w wr)) (fun i _ => n - (intOf i).toNat)
  case atStart => exact ⟨0, Nat.zero_le _, rfl, Below.refl _ _⟩
  case round =>
    obtain ⟨k, hk, rfl, hL⟩ := hrel
    by_cases hlt : k < n
    · obtain ⟨g, o, rfl, hgl, h0⟩ := HC.out k (by rw [← HN.out]; exact hlt)
      obtain ⟨g2, o2, rfl, hgl2, h02⟩ := HC2.out k (by rw [← HN.out]; exact hlt)
      have c0 : wr.cell? ⟨g, o + k, none⟩ = some (.string (bs (l.getD k []))) := by rw [hL.out.cell hgl]; exact h0
      have c2 : wr.cell? ⟨g2, o2 + k, none⟩ = some (.string (bs (l.getD k []))) := by rw [hL.out.cell hgl2]; exact h02
      have zk : (0 : Int) ≤ (k : Int) := by omega
      have yk : (k : Int) < (n : Int) := by omega
      have w5 : IntKind.i64.wrap ((k : Int) + 1) = (k : Int) + 1 := IntWalk.i64_in _ (by omega)
      clear HC HC2 h0 h02 hgl hgl2
      generalize bs (l.getD k []) = sb at *
      have e1 : (sb.toList == sb.toList) = true := by simp
      go_wp2
      go_quiet (fail)
      go_wp2
      go_roundw
      case rel => exact ⟨k + 1, by omega, by go_num, below_drewN hL.out _⟩
      case measure => simp [intOf]; omega
    · have e : k = n := by omega
      subst e
      clear HC HC2
      go_wp2
      go_ret
      exact ⟨rfl, hL.out⟩
theorem neq_pt (x : Pt) (w : World) : (binOp .neq 50 (.agg #[.bool x.d, .int .i64 x.b, .string (bs x.t)]) (.agg #[.bool x.d, .int .i64 x.b, .string (bs x.t)])).run Try.prog w = .ok (.bool false) w := by
  have p0 := part_at9 w 4 (Try.isAgg4 w) #[.bool x.d, .int .i64 x.b, .string (bs x.t)] 0 (.bool x.d) rfl
  have p1 := part_at9 w 3 (Try.isAgg3 w) #[.bool x.d, .int .i64 x.b, .string (bs x.t)] 1 (.int .i64 x.b) rfl
  have p2 := part_at9 w 9 (Try.isAgg9 w) #[.bool x.d, .int .i64 x.b, .string (bs x.t)] 2 (.string (bs x.t)) rfl
  have s0 : (Op.equalIn 9999 4 (.bool x.d) (.bool x.d)).run Try.prog w = .ok true w := by
    unfold Op.equalIn
    rw [Sem.run_bind, run_underlying (show Try.prog.underlying 4 = some .bool by kernel_rfl) w]
    simp
  have s1 : (Op.equalIn 9999 3 (.int .i64 x.b) (.int .i64 x.b)).run Try.prog w = .ok true w := by
    unfold Op.equalIn
    rw [Sem.run_bind, run_underlying (show Try.prog.underlying 3 = some (.int .i64) by kernel_rfl) w]
    simp
  have s2 := run_equalIn_string (P := Try.prog) w 9998 9 (bs x.t) (bs x.t) (by kernel_rfl)
  rw [show ((bs x.t).toList == (bs x.t).toList) = true by simp] at s2
  rw [run_neq_struct, run_equalIn_struct w 9999 50 _ _ (by kernel_rfl) (by kernel_rfl)]
  have hF : (Op.eqFields 9999 #[.bool x.d, .int .i64 x.b, .string (bs x.t)] #[.bool x.d, .int .i64 x.b, .string (bs x.t)] (Try.prog.fieldsOf 50).toList).run Try.prog w = .ok true w := by
    simp only [Program.fieldsOf, Try.underlying50]
    unfold Op.eqFields
    rw [if_pos (by decide)]
    simp only [Sem.run_bind, p0, s0, Result.andThen_ok]
    simp only [Bool.not_true, Bool.false_eq_true, if_false]
    unfold Op.eqFields
    rw [if_pos (by decide)]
    simp only [Sem.run_bind, p1, s1, Result.andThen_ok]
    simp only [Bool.not_true, Bool.false_eq_true, if_false]
    unfold Op.eqFields
    rw [if_pos (by decide)]
    simp only [Sem.run_bind, p2, s2, Result.andThen_ok]
    simp only [Bool.not_true, Bool.false_eq_true, if_false]
    unfold Op.eqFields
    rfl
  rw [hF]; rfl
set_option maxHeartbeats 1000000 in
theorem same9_any {l : List Pt} {u v : Value} {w : World} (hU : RowP w u l) (hV : RowP w v l) (hl : l.length ≤ 1000000) :
    Calls Try.prog 21 #[u, v] w fun e w' => e = .returned (.bool true) ∧ Below w.heap.size w w' := by
  obtain ⟨ad, cap, rfl, hc⟩ := hU.cells
  obtain ⟨ad2, cap2, rfl, hc2⟩ := hV.cells
  have HC := Lib.hid hc
  have HC2 := Lib.hid hc2
  have HN1 : Hid (∀ k W, _) := Lib.hid (fun (k : Nat) W => neq_pt (l.getD k zp) W)
  obtain ⟨n, hn⟩ : ∃ n, n = l.length := ⟨_, rfl⟩
  have HN := Lib.hid hn
  rw [← hn] at hl ⊢
  clear hc hc2 hU hV hn
  go_enter Try.func21, Try.ntmps21
  go_wp2
  go_loopw [5] (fun i wr => ∃ k : Nat, k ≤ n ∧ i = .int .i64 (k : Int) ∧ Hid (Below w.heap.size w wr)) (fun i _ => n - (intOf i).toNat)
  case atStart => exact ⟨0, Nat.zero_le _, rfl, Below.refl _ _⟩
  case round =>
    obtain ⟨k, hk, rfl, hL⟩ := hrel
    by_cases hlt : k < n
    · obtain ⟨g, o, rfl, hgl, h0, h1, h2⟩ := HC.out k (by rw [← HN.out]; exact hlt)
      obtain ⟨g2, o2, rfl, hgl2, h02, h12, h22⟩ := HC2.out k (by rw [← HN.out]; exact hlt)
      have c0 : wr.cell? ⟨g, o + k * 3, none⟩ = some (.bool (l.getD k zp).d) := by rw [hL.out.cell hgl]; exact h0
      have c1 : wr.cell? ⟨g, o + k * 3 + 1, none⟩ = some (.int .i64 (l.getD k zp).b) := by rw [hL.out.cell hgl]; exact h1
      have c2 : wr.cell? ⟨g, o + k * 3 + 2, none⟩ = some (.string (bs (l.getD k zp).t)) := by rw [hL.out.cell hgl]; exact h2
      have d0 : wr.cell? ⟨g2, o2 + k * 3, none⟩ = some (.bool (l.getD k zp).d) := by rw [hL.out.cell hgl2]; exact h02
      have d1 : wr.cell? ⟨g2, o2 + k * 3 + 1, none⟩ = some (.int .i64 (l.getD k zp).b) := by rw [hL.out.cell hgl2]; exact h12
      have d2 : wr.cell? ⟨g2, o2 + k * 3 + 2, none⟩ = some (.string (bs (l.getD k zp).t)) := by rw [hL.out.cell hgl2]; exact h22
      have N1 := HN1.out k
      have zk : (0 : Int) ≤ (k : Int) := by omega
      have yk : (k : Int) < (n : Int) := by omega
      have w5 : IntKind.i64.wrap ((k : Int) + 1) = (k : Int) + 1 := IntWalk.i64_in _ (by omega)
      have w6 : IntKind.i64.wrap (k : Int) = (k : Int) := IntWalk.i64_in _ (by omega)
      clear HC HC2 HN1 h0 h1 h2 h02 h12 h22 hgl hgl2
      generalize (l.getD k zp).d = xd at *
      generalize (l.getD k zp).b = xb at *
      generalize bs (l.getD k zp).t = sb at *
      go_wp2
      go_quiet (fail)
      go_wp2
      go_roundw
      case rel => exact ⟨k + 1, by omega, by go_num, below_drewN hL.out _⟩
      case measure => simp [intOf]; omega
    · have e : k = n := by omega
      subst e
      clear HC HC2 HN1
      go_wp2
      go_ret
      exact ⟨rfl, hL.out⟩
/- more texts than are looked at, or longer ones -/
def manyB (T : List (List UInt8)) (nb : Nat) : Bool := decide (40 < T.length) || decide (210 < nb) || T.any (fun x => decide (300 < x.length))
theorem manyB_no {T : List (List UInt8)} {nb : Nat} (h : manyB T nb = false) : T.length ≤ 40 ∧ nb ≤ 210 ∧ ∀ x ∈ T, x.length ≤ 300 := by
  unfold manyB at h
  simp only [Bool.or_eq_false_iff, decide_eq_false_iff_not, List.any_eq_false, decide_eq_true_eq] at h
  exact ⟨by omega, by omega, fun x hx => by have := h.2 x hx; omega⟩
set_option maxHeartbeats 1000000 in
theorem many9_any {T : List (List UInt8)} {Bs : List Int} {u v : Value} {w : World} (hU : RowS w u T) (hV : RowI w v Bs) :
    Calls Try.prog 18 #[u, v] w fun e w' => e = .returned (.bool (manyB T Bs.length)) ∧ Below w.heap.size w w' := by
  obtain ⟨ad, cap, rfl, hc⟩ := hU.cells
  obtain ⟨ad2, cap2, rfl⟩ := RowG.len hV
  have HC := Lib.hid hc
  obtain ⟨n, hn⟩ : ∃ n, n = T.length := ⟨_, rfl⟩
  obtain ⟨nb, hnb⟩ : ∃ nb, nb = Bs.length := ⟨_, rfl⟩
  have HN := Lib.hid hn
  obtain ⟨R, hR⟩ : ∃ R, R = manyB T nb := ⟨_, rfl⟩
  rw [← hn, ← hnb, ← hR]
  by_cases h1 : 40 < n
  · have HR : Hid (R = true) := by show _ = _; rw [hR]; unfold manyB; rw [← hn, decide_eq_true h1]; rfl
    have t1 : (40 : Int) < (n : Int) := by omega
    clear hR hnb hn hc hU hV h1
    go_enter Try.func18, Try.ntmps18
    go_wp2
    go_ret
    exact ⟨by rw [HR.out]; rfl, Below.refl _ _⟩
  · have t1 : decide ((40 : Int) < (n : Int)) = false := by simp; omega
    by_cases h2 : 210 < nb
    · have HR : Hid (R = true) := by show _ = _; rw [hR]; unfold manyB; rw [decide_eq_true h2, Bool.or_true]; rfl
      have t2 : (210 : Int) < (nb : Int) := by omega
      clear hR hnb hn hc hU hV h1
      go_enter Try.func18, Try.ntmps18
      go_wp2
      go_ret
      exact ⟨by rw [HR.out]; rfl, Below.refl _ _⟩
    · have t2 : decide ((210 : Int) < (nb : Int)) = false := by simp; omega
      have HR1 : Hid (∀ k, k < n → 300 < (T.getD k []).length → R = true) := fun k hk hl => by
        rw [hR]
        unfold manyB
        rw [Bool.or_eq_true]
        exact Or.inr (List.any_eq_true.2 ⟨_, getD_mem T [] k (by omega), decide_eq_true hl⟩)
      have HR2 : Hid ((∀ k, k < n → ¬ 300 < (T.getD k []).length) → R = false) := fun h => by
        rw [hR]
        unfold manyB
        rw [← hn, decide_eq_false h1, decide_eq_false h2, Bool.false_or, Bool.false_or, List.any_eq_false]
        intro x hx
        obtain ⟨k, hk, rfl⟩ := List.getElem_of_mem hx
        have := h k (by omega)
        rw [List.getD_eq_getElem?_getD, List.getElem?_eq_getElem hk] at this
        simpa using this
      have n40 : (n : Int) ≤ 40 := by omega
      have n210 : (nb : Int) ≤ 210 := by omega
      clear hR hnb hn hc hU hV h1 h2
      go_enter Try.func18, Try.ntmps18
      go_wp2
      go_loopw [5] (fun i wr => ∃ k : Nat, k ≤ n ∧ i = .int .i64 (k : Int) ∧ Hid (∀ j, j < k → ¬ 300 < (T.getD j []).length) ∧ w = wr) (fun i _ => n - (intOf i).toNat)
      case atStart => exact ⟨0, Nat.zero_le _, rfl, fun j hj => by omega, rfl⟩
      case round =>
        obtain ⟨k, hk, rfl, hE, rfl⟩ := hrel
        by_cases hlt : k < n
        · obtain ⟨b, o, rfl, hb, c0⟩ := HC.out k (by rw [← HN.out]; exact hlt)
          have hz := bs_size (T.getD k [])
          obtain ⟨m, hm⟩ : ∃ m, m = (T.getD k []).length := ⟨_, rfl⟩
          rw [← hm] at hz
          generalize bs (T.getD k []) = sb at *
          have zk : (0 : Int) ≤ (k : Int) := by omega
          have yk : (k : Int) < (n : Int) := by omega
          have w6 : IntKind.i64.wrap ((k : Int) + 1) = (k : Int) + 1 := IntWalk.i64_in _ (by omega)
          by_cases hg : 300 < m
          · have t3 : (300 : Int) < (sb.size : Int) := by omega
            have e := Lib.hid (HR1.out k hlt (by rw [← hm]; exact hg))
            clear hz hm hg hE
            go_wp2
            go_ret
            exact ⟨by rw [e.out]; rfl, Below.refl _ _⟩
          · have t3 : (sb.size : Int) ≤ 300 := by omega
            have HE : Hid (∀ j, j < k + 1 → ¬ 300 < (T.getD j []).length) := fun j hj => by
              by_cases e : j = k
              · rw [e, ← hm]; exact hg
              · exact hE.out j (by omega)
            clear hz hm hg hE
            go_wp2
            go_roundw
            case rel => exact ⟨k + 1, by omega, by go_num, HE, trivial⟩
            case measure => simp [intOf]; omega
        · have e : k = n := by omega
          subst e
          have HF := Lib.hid (HR2.out hE.out)
          clear hE
          go_wp2
          go_ret
          exact ⟨by rw [HF.out]; rfl, Below.refl _ _⟩
end Go.Proofs.Ytekeaoolodmdaaa
/- Whether a list may be; what every right program answers. -/
namespace Go.Proofs.Ytekeaoolodmdaaa
set_option maxRecDepth 100000
open Go.RowKit
theorem right9_any {l : List Pt} {v : Value} {w : World} (hv : RowP w v l) (hs : l.length ≤ 10000) (ht : ∀ x ∈ l, x.t.length ≤ 1000000) :
    Calls Try.prog 15 #[v] w fun e w' => e = .returned (.bool (decide ((allT l).2 = 0))) ∧ Below w.heap.size w w' := by
  have C1 : Hid (∀ W, RowP W v l → _) := Lib.hid (fun W h => all_any9 (w := W) h hs ht)
  have HV := Lib.hid hv
  clear hv ht hs
  by_cases c : (allT l).2 = 0
  · rw [c] at C1
    rw [decide_eq_true c]
    go_enter Try.func15, Try.ntmps15
    go_wp2_with fail
    refine (C1.out _ HV.out).mono ?_
    rintro e w1 ⟨u, rfl, hO, B1⟩
    have L1 := Lib.hid B1
    clear B1 hO C1
    go_wp2
    go_ret
    exact ⟨rfl, L1.out⟩
  · rw [decide_eq_false c]
    generalize (allT l).2 = er at *
    have c2 : (er == 0) = false := by simpa using c
    go_enter Try.func15, Try.ntmps15
    go_wp2_with fail
    refine (C1.out _ HV.out).mono ?_
    rintro e w1 ⟨u, rfl, hO, B1⟩
    have L1 := Lib.hid B1
    clear B1 hO C1
    go_wp2
    go_ret
    exact ⟨rfl, L1.out⟩
def AD : List UInt8 := [16, 17, 2, 120, 33, 0]
def AP : List Pt := [⟨false, 0, AB⟩, ⟨true, 0, AD⟩]
theorem AP_way : wayR AP 1 = ([1, 0], 0) := by decide +kernel
theorem AP_way0 : wayR AP 0 = ([0], 0) := by decide +kernel
theorem AD_res : aRes AB AD = (AX, 0) := by
  have h := aRes_back (B := AB) (l := AL) (by decide) AL_good (by rw [AL_size]; decide)
  rw [show AB.length = 16 from rfl, AL_bytes, AL_text] at h
  exact h
theorem AP_tx0 : txq AP 0 = (AB, 0) := by
  rw [txq_plain (by rfl) []]
  rfl
theorem AP_tx1 : txq AP 1 = (AX, 0) := by
  rw [txq_delta (by rfl) (by decide)]
  have e : (AP.getD 1 zp).b.toNat = 0 := rfl
  rw [e, AP_tx0]
  show tlq ⟨true, 0, AD⟩ AB = _
  unfold tlq
  rw [if_pos rfl]
  exact AD_res
theorem AP_text : textR AP 1 = (AX, 0) := by
  unfold textR
  rw [AP_way]
  exact AP_tx1
theorem AP_text0 : textR AP 0 = (AB, 0) := by
  unfold textR
  rw [AP_way0]
  exact AP_tx0
theorem AP_depth : depthR AP 1 = (1, 0) := by
  unfold depthR
  rw [AP_way]
  rfl
theorem AP_all : (allT AP).2 = 0 := by
  unfold allT
  rw [allR_all]
  intro i hi
  have h2 : AP.length = 2 := rfl
  have : i = 0 ∨ i = 1 := by omega
  rcases this with rfl | rfl
  · rw [show ((0 : Nat) : Int) = 0 from rfl, AP_text0]
  · rw [show ((1 : Nat) : Int) = 1 from rfl, AP_text]
theorem AP_row (w : World) : RowP (w.alloc (.cells #[.bool false, .int .i64 0, .string ⟨#[48, 49, 50, 51, 52, 53, 54, 55, 56, 57, 97, 98, 99, 100, 101, 102]⟩, .bool true, .int .i64 0, .string ⟨#[16, 17, 2, 120, 33, 0]⟩] 50)) (.slice (some ⟨w.heap.size, 0, none⟩) 2 2) AP := by
  refine Or.inr ⟨w.heap.size, 0, 2, rfl, by decide, by decide, by simp, fun i hi => ?_⟩
  rw [Nat.zero_add, cell_of_row _ _ i _ _ _ (heap_alloc_new _ _)]
  have h6 : i < 6 := hi
  match i, h6 with
  | 0, _ => rfl
  | 1, _ => rfl
  | 2, _ => rfl
  | 3, _ => rfl
  | 4, _ => rfl
  | 5, _ => rfl
set_option maxHeartbeats 1000000 in
theorem alive9_any (w : World) : Calls Try.prog 8 #[] w fun e w' => e = .returned (.bool true) ∧ Below w.heap.size w w' := by
  have C1 : Hid (∀ W v, RowP W v AP → Calls Try.prog 11 #[v, .int .i64 1] W fun e w' => e = .returned (.tuple #[.string ⟨#[120, 48, 49, 50, 51, 52, 53, 54, 55, 56, 57, 97, 98, 99, 100, 101, 102]⟩, .int .i64 0]) ∧ Below W.heap.size W w') := fun W v h => by
    have := text_any9 1 h (by decide) (by decide)
    rw [AP_text] at this
    exact this
  have C2 : Hid (∀ W v, RowP W v AP → Calls Try.prog 10 #[v, .int .i64 1] W fun e w' => e = .returned (.tuple #[.int .i64 1, .int .i64 0]) ∧ Below W.heap.size W w') := fun W v h => by
    have := depth_any 1 h (by decide)
    rw [AP_depth] at this
    exact this
  have C3 : Hid (∀ W v, RowP W v AP → Calls Try.prog 15 #[v] W fun e w' => e = .returned (.bool true) ∧ Below W.heap.size W w') := fun W v h => by
    have := right9_any h (by decide) (by decide)
    rw [AP_all] at this
    exact this
  go_enter Try.func8, Try.ntmps8
  go_wp2_with fail
  have R0 := AP_row w
  have L0 : Hid (Below w.heap.size w (w.alloc (.cells #[.bool false, .int .i64 0, .string ⟨#[48, 49, 50, 51, 52, 53, 54, 55, 56, 57, 97, 98, 99, 100, 101, 102]⟩, .bool true, .int .i64 0, .string ⟨#[16, 17, 2, 120, 33, 0]⟩] 50))) := (Below.refl _ _).alloc (Nat.le_refl _) _
  refine (C1.out _ _ R0).mono ?_
  rintro e w1 ⟨rfl, B1⟩
  have R1 := Lib.hid (R0.below B1)
  have L1 := Lib.hid (L0.out.trans (B1.mono L0.out.size))
  clear R0 L0 B1 C1
  go_wp2_with fail
  refine (C2.out _ _ R1.out).mono ?_
  rintro e w2 ⟨rfl, B2⟩
  have R2 := Lib.hid (R1.out.below B2)
  have L2 := Lib.hid (L1.out.trans (B2.mono L1.out.size))
  clear R1 L1 B2 C2
  go_wp2_with fail
  refine (C3.out _ _ R2.out).mono ?_
  rintro e w3 ⟨rfl, B3⟩
  have L3 := Lib.hid (L2.out.trans (B3.mono L2.out.size))
  clear R2 L2 B3 C3
  go_wp2
  go_ret
  exact ⟨rfl, L3.out⟩
end Go.Proofs.Ytekeaoolodmdaaa
