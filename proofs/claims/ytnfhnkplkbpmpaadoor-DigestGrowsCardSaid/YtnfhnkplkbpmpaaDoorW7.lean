import Derived.Test.YtnfhnkplkbpmpaaDoorW6
namespace Go.Proofs.YtnfhnkplkbpmpaaDoor
open Go.RowKit
/- how many bytes the first k parts have -/
def offs (ss : Nat → ByteArray) : Nat → Nat
  | 0 => 0
  | k + 1 => offs ss k + (ss k).size
theorem offs_mono (ss : Nat → ByteArray) {a b : Nat} (h : a ≤ b) : offs ss a ≤ offs ss b := by
  induction h with
  | refl => exact Nat.le_refl _
  | step _ ih => exact Nat.le_trans ih (Nat.le_add_right _ _)
/- the parts' bytes stand in d from n0 on -/
def Parts (ss : Nat → ByteArray) (len n0 : Nat) (d : Nat → UInt8) : Prop := ∀ i, i < len → ∀ j, j < (ss i).size → sAt (ss i) j = d (n0 + offs ss i + j)
set_option maxHeartbeats 1000000 in
set_option maxRecDepth 100000 in
theorem write_none (ad : Option Addr) (cap : Nat) (hb : Nat) (w : World) :
    Calls Tryd.prog 13 #[.pointer (some ⟨hb, 0, none⟩), .slice ad 0 cap] w fun e w' => e = .returned (.tuple #[]) ∧ w = w' := by
  go_enter Tryd.func13, Tryd.ntmps13
  go_wp2_with fail
  refine wp_loop_rounds 1 ?_
  rw [rounds_succ]
  go_wp2_with fail
  go_end0
  exact ⟨rfl, rfl⟩
set_option maxHeartbeats 1000000 in
set_option maxRecDepth 100000 in
theorem write_nil (v : Value) (w : World) :
    Calls Tryd.prog 13 #[.pointer none, v] w fun e w' => e = .returned (.tuple #[]) ∧ w = w' := by
  go_enter Tryd.func13, Tryd.ntmps13
  go_wp2_with fail
  exact bodyPost_ret (v := .tuple #[]) (results_none rfl _ _ _) rfl ⟨rfl, rfl⟩
set_option maxHeartbeats 1000000 in
set_option maxRecDepth 100000 in
theorem write_some (ss : Nat → ByteArray) (b o len cap : Nat) (d : Nat → UInt8) (n0 hb : Nat) (w : World) (hlen : 0 < len) (hl : len ≤ 1048576) (hn : n0 + offs ss len ≤ 1073741824) (hT : Taken hb d n0 w w)
    (hd : Parts ss len n0 d) (hh : hb ≠ 0) (hbb : b ≠ hb) (hk : ∀ i, i < 64 → w.cell? ⟨0, i, none⟩ = some (wv kk i)) (hc : ∀ i, i < len → w.cell? ⟨b, o + i, none⟩ = some (.string (ss i))) :
    Calls Tryd.prog 13 #[.pointer (some ⟨hb, 0, none⟩), .slice (some ⟨b, o, none⟩) len cap] w fun e w' => e = .returned (.tuple #[]) ∧ Taken hb d (n0 + offs ss len) w w' := by
  have HK := Lib.hid hk
  have HC := Lib.hid hc
  have HD := Lib.hid hd
  clear hk hc hd
  go_enter Tryd.func13, Tryd.ntmps13
  go_wp2_with fail
  go_loopw [10] (fun i wr => ∃ k : Nat, k ≤ len ∧ i = .int .i64 k ∧ Taken hb d (n0 + offs ss k) w wr) (fun i _ => len - (intOf i).toNat)
  case atStart => exact ⟨0, by omega, rfl, hT⟩
  case round =>
    obtain ⟨k, hk, rfl, st, blk, hB, hI, hg⟩ := hrel
    by_cases hlt : k < len
    · have ck : wr.cell? ⟨b, o + k, none⟩ = some (.string (ss k)) := cell_grown hg (HC.out k hlt) hbb
      have hz : n0 + offs ss k + (ss k).size ≤ 1073741824 := by
        have := offs_mono ss (show k + 1 ≤ len by omega)
        have e : offs ss (k + 1) = offs ss k + (ss k).size := rfl
        omega
      have hkr : Hid (∀ i, i < 64 → wr.cell? ⟨0, i, none⟩ = some (wv kk i)) := fun i hi => cell_grown hg (HK.out i hi) (by simpa using Ne.symm hh)
      go_wp2_with fail
      refine (take_any (ss k) d st blk (n0 + offs ss k) hb wr hz hB hI (HD.out k hlt) hh hkr.out).mono ?_
      rintro e w1 ⟨rfl, st1, blk1, hB1, hI1, hg1⟩
      clear ck
      go_wp2_with fail
      go_roundw
      case rel => exact ⟨k + 1, by omega, by go_num, st1, blk1, by rw [show n0 + offs ss (k + 1) = n0 + offs ss k + (ss k).size from by rw [Nat.add_assoc]; rfl]; exact hB1, by rw [show n0 + offs ss (k + 1) = n0 + offs ss k + (ss k).size from by rw [Nat.add_assoc]; rfl]; exact hI1, grown_trans hg hg1⟩
      case measure => simp [intOf]; omega
    · have e : Hid (k = len) := by show k = len; omega
      go_wp2_with fail
      go_end0
      refine ⟨rfl, ?_⟩
      rw [← e.out]
      exact ⟨st, blk, hB, hI, hg⟩
end Go.Proofs.YtnfhnkplkbpmpaaDoor
