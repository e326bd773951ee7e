import Derived.Test.YtekeaoolodmdaaaV5m
import Derived.Deep.RegionLaw
/- The document's answers: numbers, texts, ids. -/
namespace Go.Proofs.Ytekeaoolodmdaaa
open Go.RowKit Classical
theorem conv_one (W : World) (b : Nat) (x : Int) (d : UInt8) (hx : x = d.toNat) (hc : W.cell? ⟨b, 0, none⟩ = some (.int .u8 x)) : (convert 89 9 (.slice (some ⟨b, 0, none⟩) 1 1)).run Try.prog W = .ok (.string (bs [d])) W := by
  subst hx
  exact run_convert_bytes_back (P := Try.prog) W 89 9 5 ⟨b, 0, none⟩ 1 [d] t25 t5 t9 (fun j hj => by
    obtain rfl : j = 0 := by simpa using hj
    rw [Addr.add_mid]
    exact hc)
set_option maxRecDepth 100000 in
theorem ref_low (n : Nat) (w : World) (hn : n < 128) : Calls Try.prog 38 #[.int .i64 n] w fun e w' => e = .returned (.string (bs (dg n))) ∧ Below w.heap.size w w' := by
  rw [dg_low hn]
  have hc : ∀ W b, W.cell? ⟨b, 0, none⟩ = some (.int .u8 (n : Int)) → (convert 89 9 (.slice (some ⟨b, 0, none⟩) 1 1)).run Try.prog W = .ok (.string (bs [UInt8.ofNat n])) W := fun W b h => conv_one W b n _ (by rw [ofNat_toNat_small (by omega)]) h
  have c1 : (n : Int) < 128 := by omega
  generalize bs [UInt8.ofNat n] = sb at hc ⊢
  go_enter Try.func38, Try.ntmps38
  go_wp2
  go_ret
  exact ⟨rfl, (Below.refl _ _).alloc (Nat.le_refl _) _⟩
set_option maxHeartbeats 1000000 in
set_option maxRecDepth 100000 in
theorem ref_high (n : Nat) (w : World) (hn : n ≤ 1099511627775) (h : ¬ n < 128) (IH : ∀ w : World, Calls Try.prog 38 #[.int .i64 (n / 128 : Nat)] w fun e w' => e = .returned (.string (bs (dg (n / 128)))) ∧ Below w.heap.size w w') :
    Calls Try.prog 38 #[.int .i64 n] w fun e w' => e = .returned (.string (bs (dg n))) ∧ Below w.heap.size w w' := by
  have e1 : (n : Int).tmod 128 = (n : Int) % 128 := Int.tmod_eq_emod_of_nonneg (by omega)
  have e2 : (n : Int).tdiv 128 = ((n / 128 : Nat) : Int) := by rw [Int.tdiv_eq_ediv_of_nonneg (by omega)]; omega
  have HC : Hid (∀ W b, W.cell? ⟨b, 0, none⟩ = some (.int .u8 ((n : Int) % 128 + 128)) → (convert 89 9 (.slice (some ⟨b, 0, none⟩) 1 1)).run Try.prog W = .ok (.string (bs [UInt8.ofNat (n % 128 + 128)])) W) := fun W b h => conv_one W b _ _ (by rw [ofNat_toNat_small (by omega)]; omega) h
  have hap : bs [UInt8.ofNat (n % 128 + 128)] ++ bs (dg (n / 128)) = bs (dg n) := by rw [bs_append, dg_high h]; rfl
  have hsz : ¬ 9223372036854775807 < (bs [UInt8.ofNat (n % 128 + 128)]).size + (bs (dg (n / 128))).size := by
    rw [bs_size, bs_size]
    have := dg_le (n / 128) 0 (by omega) (by omega)
    simp
    omega
  have w1 : IntKind.i64.wrap ((n : Int) % 128 + 128) = (n : Int) % 128 + 128 := IntWalk.i64_in _ (by omega)
  have w2 : IntKind.u8.wrap ((n : Int) % 128 + 128) = (n : Int) % 128 + 128 := by simp [IntKind.wrap, IntKind.signed, IntKind.bits]; omega
  have w3 : IntKind.i64.wrap ((n / 128 : Nat) : Int) = ((n / 128 : Nat) : Int) := IntWalk.i64_in _ (by omega)
  have HI := Lib.hid IH
  clear IH
  have c1 : decide ((n : Int) < 128) = false := by simp; omega
  have c2 : (n : Int) ≤ 1099511627775 := by omega
  clear h hn
  generalize bs [UInt8.ofNat (n % 128 + 128)] = q at HC hap hsz
  generalize bs (dg (n / 128)) = r at HI hap hsz
  generalize bs (dg n) = t at hap ⊢
  generalize n / 128 = m at e2 HI w3
  have hcv := HC.out
  clear HC
  go_enter Try.func38, Try.ntmps38
  go_wp2_with fail
  go_region_law (go_simp; go_at_call 38; refine (HI.out _).mono ?_; rintro e w1 ⟨rfl, B1⟩; have hcell := fun h => B1.cell (p := ⟨w.heap.size, 0, none⟩) h)
  · rename_i w1 B1 hcell
    clear hcell
    go_wp2
    go_ret
    exact ⟨rfl, ((((Below.refl w.heap.size w).drew).alloc (Nat.le_refl _) _).trans (B1.mono (by simp)))⟩
  · rename_i w1 B1 hcell
    clear hcell
    go_wp2
    go_ret
    exact ⟨rfl, ((((Below.refl w.heap.size w).drew).alloc (Nat.le_refl _) _).trans (B1.mono (by simp)))⟩
  · rename_i w1 B1 hcell
    clear hcell
    go_wp2
    go_ret
    exact ⟨rfl, ((Below.refl w.heap.size w).drew.trans B1).alloc B1.size _⟩
theorem ref_nat : ∀ (n : Nat), n ≤ 1099511627775 → ∀ w, Calls Try.prog 38 #[.int .i64 n] w fun e w' => e = .returned (.string (bs (dg n))) ∧ Below w.heap.size w w' := by
  intro n
  induction n using Nat.strongRecOn with
  | _ n ih =>
    intro hn w
    by_cases h : n < 128
    · exact ref_low n w h
    · exact ref_high n w hn h (ih (n / 128) (by omega) (by omega))
set_option maxRecDepth 100000 in
theorem ref_neg (n : Int) (w : World) (hn : n < 0) : Calls Try.prog 38 #[.int .i64 n] w fun e w' => e = .returned (.string (bs (dg 0))) ∧ Below w.heap.size w w' := by
  rw [dg_low (by decide)]
  have hc : ∀ W b, W.cell? ⟨b, 0, none⟩ = some (.int .u8 0) → (convert 89 9 (.slice (some ⟨b, 0, none⟩) 1 1)).run Try.prog W = .ok (.string (bs [UInt8.ofNat 0])) W := fun W b h => conv_one W b 0 _ rfl h
  generalize bs [UInt8.ofNat 0] = sb at hc ⊢
  go_enter Try.func38, Try.ntmps38
  go_wp2
  go_ret
  exact ⟨rfl, (Below.refl _ _).alloc (Nat.le_refl _) _⟩
set_option maxHeartbeats 1000000 in
set_option maxRecDepth 100000 in
theorem ref_over (n : Int) (w : World) (hn : 1099511627775 < n) : Calls Try.prog 38 #[.int .i64 n] w fun e w' => e = .returned (.string (bs (dg 1099511627775))) ∧ Below w.heap.size w w' := by
  have HC : Hid (∀ W b, W.cell? ⟨b, 0, none⟩ = some (.int .u8 255) → (convert 89 9 (.slice (some ⟨b, 0, none⟩) 1 1)).run Try.prog W = .ok (.string (bs [UInt8.ofNat 255])) W) := fun W b h => conv_one W b _ _ rfl h
  have hap : bs [UInt8.ofNat 255] ++ bs (dg 8589934591) = bs (dg 1099511627775) := by rw [bs_append, dg_high (n := 1099511627775) (by omega)]; rfl
  have hsz : ¬ 9223372036854775807 < (bs [UInt8.ofNat 255]).size + (bs (dg 8589934591)).size := by
    rw [bs_size, bs_size]
    have := dg_le 8589934591 0 (by omega) (by omega)
    simp
    omega
  have HI := Lib.hid (ref_nat 8589934591 (by omega))
  have c1 : (0 : Int) ≤ n := by omega
  have u1 : IntKind.i64.wrap 255 = 255 := IntWalk.i64_in _ (by omega)
  have u2 : IntKind.u8.wrap 255 = 255 := IntWalk.u8_in _ (by omega)
  have u3 : IntKind.i64.wrap 8589934591 = 8589934591 := IntWalk.i64_in _ (by omega)
  generalize bs [UInt8.ofNat 255] = q at HC hap hsz
  generalize bs (dg 8589934591) = r at HI hap hsz
  generalize bs (dg 1099511627775) = t at hap ⊢
  have hcv := HC.out
  clear HC
  go_enter Try.func38, Try.ntmps38
  go_wp2_with fail
  go_region_law (go_simp; go_at_call 38; refine (HI.out _).mono ?_; rintro e w1 ⟨rfl, B1⟩; have hcell := fun h => B1.cell (p := ⟨w.heap.size, 0, none⟩) h)
  · rename_i w1 B1 hcell
    clear hcell
    go_wp2
    go_ret
    exact ⟨rfl, ((((Below.refl w.heap.size w).drew).alloc (Nat.le_refl _) _).trans (B1.mono (by simp)))⟩
  · rename_i w1 B1 hcell
    clear hcell
    go_wp2
    go_ret
    exact ⟨rfl, ((((Below.refl w.heap.size w).drew).alloc (Nat.le_refl _) _).trans (B1.mono (by simp)))⟩
  · rename_i w1 B1 hcell
    clear hcell
    go_wp2
    go_ret
    exact ⟨rfl, ((Below.refl w.heap.size w).drew.trans B1).alloc B1.size _⟩
theorem refnum_any (n : Int) (w : World) : Calls Try.prog 38 #[.int .i64 n] w fun e w' => e = .returned (.string (bs (dg (clamp n)))) ∧ Below w.heap.size w w' := by
  by_cases h0 : n < 0
  · rw [show clamp n = 0 from by unfold clamp; omega]
    exact ref_neg n w h0
  · by_cases h1 : 1099511627775 < n
    · rw [show clamp n = 1099511627775 from by unfold clamp; omega]
      exact ref_over n w h1
    · obtain ⟨m, rfl⟩ : ∃ m : Nat, n = m := ⟨n.toNat, by omega⟩
      rw [clamp_of (by omega) (by omega), Int.toNat_natCast]
      exact ref_nat m (by omega) w
end Go.Proofs.Ytekeaoolodmdaaa
