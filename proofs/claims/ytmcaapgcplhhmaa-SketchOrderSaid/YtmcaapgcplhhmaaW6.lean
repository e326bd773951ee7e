import Derived.Test.YtmcaapgcplhhmaaW5
/- Same, and how far the references are apart; great; Join. -/
namespace Go.Proofs.Ytmcaapgcplhhmaa
open Go.RowKit
attribute [local go_sem] run_store_complex
theorem ord_FB (a : Int) (ha : a.natAbs < 9007199254740992) : FloatKind.f64.format.order (FB a) (FB a) = some .eq := by
  have e := eq_FB a a ha ha
  rw [decide_eq_true rfl] at e
  exact eq_of_beq e
set_option maxHeartbeats 1000000 in
theorem same_any (g : Nat → Int) (hg : Ok g) (w : World) :
    Calls Try.prog 10 #[SV g, WV g] w fun e w' => e = .returned (.bool true) ∧ Below w.heap.size w w' := by
  unfold SV WV
  go_enter Try.func10, Try.ntmps10
  go_wp2
  go_loopw [5] (fun i wr => ∃ k : Nat, k ≤ 4 ∧ i = .int .i64 k ∧ Hid (Blk wr w.heap.size 28 4 (sv g)) ∧ Hid (Blk wr (w.heap.size + 1) 31 8 (wv g)) ∧ Hid (Below w.heap.size w wr)) (fun i _ => 4 - (intOf i).toNat)
  case atStart =>
    obtain ⟨h1, h2, h3⟩ := two_new w (E := 28) (F := 31) (sv_arr g) (wv_arr g)
    exact ⟨0, by omega, rfl, h1, h2, h3⟩
  case round =>
    obtain ⟨k, hk, rfl, hB0, hB1, hL⟩ := hrel
    by_cases hlt : k < 4
    · have zk : (0 : Int) ≤ (k : Int) := by omega
      have yk : (k : Int) < 4 := by omega
      have l1 := hg (2 * k)
      have l2 := hg (2 * k + 1)
      have o1 := ord_FB (g (2 * k)) (by omega)
      have o2 := ord_FB (g (2 * k + 1)) (by omega)
      have c1 : wr.cell? ⟨w.heap.size, k, none⟩ = some (.complex .f64 (FB (g (2 * k))) (FB (g (2 * k + 1)))) := hB0.out.cell k hlt
      have c2 : wr.cell? ⟨w.heap.size + 1, 2 * k, none⟩ = some (.int .i64 (g (2 * k))) := hB1.out.cell (2 * k) (by omega)
      have c3 : wr.cell? ⟨w.heap.size + 1, 2 * k + 1, none⟩ = some (.int .i64 (g (2 * k + 1))) := hB1.out.cell (2 * k + 1) (by omega)
      have e1 : floatOfInt .f64 (g (2 * k)) = FB (g (2 * k)) := rfl
      have e2 : floatOfInt .f64 (g (2 * k + 1)) = FB (g (2 * k + 1)) := rfl
      clear l1 l2
      generalize FB (g (2 * k)) = a1 at *
      generalize FB (g (2 * k + 1)) = a2 at *
      generalize g (2 * k) = x1 at *
      generalize g (2 * k + 1) = x2 at *
      go_wp2
      go_region
      have H0 := Lib.hid hB0.out.drew
      have H1 := Lib.hid hB1.out.drew
      have H2 := Lib.hid hL.out.drew
      clear hB0 hB1 hL c1 c2 c3
      generalize wr.drew = w5 at H0 H1 H2 ⊢
      go_wp2
      go_roundw
      case rel => exact ⟨k + 1, by omega, by go_num, H0, H1, H2⟩
      case measure => simp [intOf]; omega
    · have e : k = 4 := by omega
      subst e
      go_wp2
      go_ret
      exact ⟨rfl, hL.out⟩
set_option maxHeartbeats 1000000 in
theorem rfar_any (g h : Nat → Int) (hg : Ok g) (hh : Ok h) (w : World) :
    Calls Try.prog 16 #[WV g, WV h] w fun e w' => e = .returned (.int .i64 (far g h : Int)) ∧ Below w.heap.size w w' := by
  unfold WV
  go_enter Try.func16, Try.ntmps16
  go_wp2
  go_loopw [5, 6] (fun n i wr => ∃ k : Nat, k ≤ 8 ∧ i = .int .i64 k ∧ n = .int .i64 (farN g h k : Int) ∧ Hid (Blk wr w.heap.size 31 8 (wv g)) ∧ Hid (Blk wr (w.heap.size + 1) 31 8 (wv h)) ∧ Hid (Below w.heap.size w wr)) (fun _ i _ => 8 - (intOf i).toNat)
  case atStart =>
    obtain ⟨h1, h2, h3⟩ := two_new w (E := 31) (F := 31) (wv_arr g) (wv_arr h)
    exact ⟨0, by omega, rfl, rfl, h1, h2, h3⟩
  case round =>
    obtain ⟨k, hk, rfl, rfl, hB0, hB1, hL⟩ := hrel
    by_cases hlt : k < 8
    · have zk : (0 : Int) ≤ (k : Int) := by omega
      have yk : (k : Int) < 8 := by omega
      have c1 : wr.cell? ⟨w.heap.size, k, none⟩ = some (.int .i64 (g k)) := hB0.out.cell k hlt
      have c2 : wr.cell? ⟨w.heap.size + 1, k, none⟩ = some (.int .i64 (h k)) := hB1.out.cell k hlt
      have l1 := hg k
      have l2 := hh k
      have l3 := farN_le hg hh k
      have l4 : (farN g h k : Int) ≤ 134217728 := by omega
      have HF : Hid (farN g h (k + 1) = farN g h k + (g k - h k).natAbs) := rfl
      clear l3
      generalize farN g h k = n at *
      generalize g k = x at *
      generalize h k = y at *
      by_cases c : y < x
      · have HE : Hid (((n : Int) + x - y) = (farN g h (k + 1) : Int)) := by show _ = _; rw [HF.out]; omega
        clear HF
        go_wp2
        go_region
        go_wp2
        go_region
        have H0 := Lib.hid hB0.out.drew.drew
        have H1 := Lib.hid hB1.out.drew.drew
        have H2 := Lib.hid hL.out.drew.drew
        clear hB0 hB1 hL c1 c2 c l1 l2 l4
        rw [HE.out]
        go_wp2
        go_roundw
        case rel => exact ⟨k + 1, by omega, by go_num, rfl, H0, H1, H2⟩
        case measure => simp [intOf]; omega
      · have HE : Hid (((n : Int) + y - x) = (farN g h (k + 1) : Int)) := by show _ = _; rw [HF.out]; omega
        have c' : x ≤ y := by omega
        clear HF c
        go_wp2
        go_region
        go_wp2
        go_region
        have H0 := Lib.hid hB0.out.drew.drew
        have H1 := Lib.hid hB1.out.drew.drew
        have H2 := Lib.hid hL.out.drew.drew
        clear hB0 hB1 hL c1 c2 c' l1 l2 l4
        rw [HE.out]
        go_wp2
        go_roundw
        case rel => exact ⟨k + 1, by omega, by go_num, rfl, H0, H1, H2⟩
        case measure => simp [intOf]; omega
    · have e : k = 8 := by omega
      subst e
      go_wp2
      go_ret
      exact ⟨rfl, hL.out⟩
set_option maxHeartbeats 1000000 in
theorem great_any (ss : Nat → ByteArray) (v : Value) (len : Nat) (w : World) (hl : len ≤ 9223372036854775807) (hS : Strs w v ss len) :
    Calls Try.prog 9 #[v] w fun e w' => e = .returned (.bool (isGreat ss len)) ∧ w = w' := by
  obtain ⟨ad, cap, rfl, ha⟩ := strs_addr hS
  clear hS
  have HA := Lib.hid ha
  clear ha
  by_cases h40 : 30 < len
  · have b1 : (30 : Int) < (len : Int) := by omega
    have e : isGreat ss len = true := by unfold isGreat; rw [decide_eq_true h40]; rfl
    rw [e]
    clear e
    go_enter Try.func9, Try.ntmps9
    go_wp2
    go_ret
    exact ⟨rfl, rfl⟩
  · have b1 : (len : Int) ≤ 30 := by omega
    have e : isGreat ss len = longs ss len := by unfold isGreat; rw [decide_eq_false h40]; rfl
    rw [e]
    clear e
    go_enter Try.func9, Try.ntmps9
    go_wp2
    go_loopw [3] (fun i wr => ∃ k : Nat, k ≤ len ∧ i = .int .i64 k ∧ longs ss k = false ∧ w = wr) (fun i _ => len - (intOf i).toNat)
    case atStart => exact ⟨0, by omega, rfl, rfl, rfl⟩
    case round =>
      obtain ⟨k, hk, rfl, hf, rfl⟩ := hrel
      have Hf := Lib.hid hf
      clear hf
      by_cases hlt : k < len
      · obtain ⟨b, o, rfl, hb, hc⟩ := HA.out (by omega)
        have ck := hc k hlt
        clear hc
        have zk : (0 : Int) ≤ (k : Int) := by omega
        have yk : (k : Int) < (len : Int) := by omega
        by_cases h1 : 500 < (ss k).size
        · have e : longs ss len = true := longs_true hlt h1
          have b2 : (500 : Int) < ((ss k).size : Int) := by omega
          clear h1
          go_wp2
          go_ret
          rw [e]
          exact ⟨rfl, rfl⟩
        · have b2 : decide ((500 : Int) < ((ss k).size : Int)) = false := by simp; omega
          have e : longs ss (k + 1) = false := by unfold longs; rw [Hf.out, decide_eq_false h1]; rfl
          have He := Lib.hid e
          clear h1 e
          go_wp2
          go_roundw
          case rel => exact ⟨k + 1, by omega, by go_num, He.out, trivial⟩
          case measure => simp [intOf]; omega
      · have e : k = len := by omega
        subst e
        go_wp2
        go_ret
        rw [Hf.out]
        exact ⟨rfl, rfl⟩
set_option maxHeartbeats 1000000 in
theorem join_any (ss : Nat → ByteArray) (v : Value) (len : Nat) (w : World) (hl : len ≤ 1048576) (hn : (pre ss len).length ≤ 1073741824) (hS : Strs w v ss len) :
    Calls Try.prog 13 #[v] w fun e w' => e = .returned (.string (cat ss len)) ∧ w = w' := by
  obtain ⟨ad, cap, rfl, ha⟩ := strs_addr hS
  clear hS
  have HA := Lib.hid ha
  have HN := Lib.hid hn
  clear ha hn
  go_enter Try.func13, Try.ntmps13
  go_wp2
  go_loopw [3, 4] (fun v i wr => ∃ (k : Nat) (t : ByteArray), k ≤ len ∧ i = .int .i64 k ∧ v = .string t ∧ t = cat ss k ∧ w = wr) (fun _ i _ => len - (intOf i).toNat)
  case atStart => exact ⟨0, _, by omega, rfl, rfl, rfl, rfl⟩
  case round =>
    obtain ⟨k, t, hk, rfl, rfl, ht, rfl⟩ := hrel
    have Ht := Lib.hid ht
    have ts : t.size = (pre ss k).length := by rw [ht]; exact cat_size _ _
    clear ht
    by_cases hlt : k < len
    · obtain ⟨b, o, rfl, hb, hc⟩ := HA.out (by omega)
      have ck := hc k hlt
      clear hc
      have zk : (0 : Int) ≤ (k : Int) := by omega
      have yk : (k : Int) < (len : Int) := by omega
      have h1 : (pre ss (k + 1)).length ≤ 1073741824 := Nat.le_trans (pre_mono ss (by omega)) HN.out
      have h2 : (pre ss (k + 1)).length = (pre ss k).length + (ss k).size := by show (pre ss k ++ bl (ss k)).length = _; rw [List.length_append, bl_len]
      have n1 : ¬ 9223372036854775807 < t.size + (ss k).size := by omega
      have Het : Hid (t ++ ss k = cat ss (k + 1)) := by show _ = _; rw [Ht.out]; rfl
      clear h1 h2 ts
      go_wp2
      go_roundw
      case rel => exact ⟨k + 1, _, by omega, by go_num, rfl, Het.out, trivial⟩
      case measure => simp [intOf]; omega
    · have e : k = len := by omega
      subst e
      go_wp2
      go_ret
      rw [Ht.out]
      exact ⟨rfl, rfl⟩
end Go.Proofs.Ytmcaapgcplhhmaa
