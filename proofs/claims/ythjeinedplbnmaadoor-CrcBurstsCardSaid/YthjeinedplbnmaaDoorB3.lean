import Derived.Test.YthjeinedplbnmaaDoorB2
namespace Go.Proofs.YthjeinedplbnmaaDoor
open Go.RowKit
theorem U_and1 (x : W32) : bits .and .u32 (U x) 1 = if odd x then 1 else 0 := by
  have e : (1 : Int) = U 1#32 := rfl
  have h : (1#32 : W32).toNat = 2 ^ 1 - 1 := rfl
  rw [← U_mod2]
  have h2 : bits .and .u32 (U x) 1 = U (x &&& 1#32) := by rw [e, U_and]
  rw [h2]
  unfold U
  rw [BitVec.toNat_and, h, Nat.and_two_pow_sub_one_eq_mod]
  omega
theorem flip_val (c : UInt8) (r : Nat) (hr : r < 8) : bits .xor .u8 (c.toNat : Int) ((2 : Int) ^ r % 256) = (((c ^^^ bit8 r).toNat : Nat) : Int) := by
  have e : (2 : Int) ^ r % 256 = (((bit8 r).toNat : Nat) : Int) := by
    match r, hr with
    | 0, _ => rfl
    | 1, _ => rfl
    | 2, _ => rfl
    | 3, _ => rfl
    | 4, _ => rfl
    | 5, _ => rfl
    | 6, _ => rfl
    | 7, _ => rfl
  rw [e, u8_xor_nat _ _ c.toNat_lt (bit8 r).toNat_lt, UInt8.toNat_xor]
theorem seal_fed (s : ByteArray) : feeds ones (sAt (sealS s)) (s.size + 4) = stps 32 ones := by
  have h := ok_seal s
  rw [str_self (sealS s), sealS_size, sealed_iff] at h
  have h2 := of_decide_eq_true h
  rw [← feeds_congr (f := sAt (sealS s)) (fun i hi => by
    have e := str_at (s.size + 4) (sAt (sealS s)) i hi
    first | rfl | exact e.symm)] at h2
  exact h2
attribute [local go_sem] U_shr U_shrm
set_option maxHeartbeats 1000000 in
set_option maxRecDepth 100000 in
theorem crcbursts_any (s : ByteArray) (at_ burst : W32) (w : World) (hs : s.size ≤ 9223372036854775807) (hk : ∀ i, i < 16 → w.cell? ⟨0, i, none⟩ = some (wv hb i)) :
    Calls Tryd.prog 7 #[.string s, .int .u32 (U at_), .int .u32 (U burst)] w fun e w' => e = .returned (.bool true) ∧ Below w.heap.size w w' := by
  have h0 : 0 < w.heap.size := block_lt_of_cell (hk 0 (by omega))
  have HKW : Hid (∀ w', Below w.heap.size w w' → ∀ i, i < 16 → w'.cell? ⟨0, i, none⟩ = some (wv hb i)) := fun w' L i hi => by rw [L.cell h0]; exact hk i hi
  clear hk
  by_cases c1 : 4000 < s.size
  · have b1 : (4000 : Int) < (s.size : Int) := by omega
    go_enter Tryd.func7, Tryd.ntmps7
    go_wp2_with fail
    refine (alive_any _ (HKW.out _ (Below.refl _ _))).mono ?_
    rintro e w1 ⟨rfl, L1⟩
    go_wp2_with fail
    refine (alive_any _ (HKW.out _ L1)).mono ?_
    rintro e w2 ⟨rfl, hb2⟩
    have L2 := below_step L1 hb2
    go_wp2_with fail
    go_ret
    exact ⟨rfl, L2⟩
  · have b1 : (s.size : Int) ≤ 4000 := by omega
    have C3 : Hid (∀ W, Below w.heap.size w W → Calls Tryd.prog 20 #[.string s] W fun e w' => e = .returned (.string (sealS s)) ∧ Below W.heap.size W w') := fun W L => seal_any s W (by omega) (HKW.out _ L)
    have ts := sealS_size s
    obtain ⟨m, hm⟩ : ∃ m, m = s.size + 4 := ⟨_, rfl⟩
    obtain ⟨M, hM⟩ : ∃ M, M = 8 * m := ⟨_, rfl⟩
    obtain ⟨a, ha⟩ : ∃ a, a = at_.toNat % M := ⟨_, rfl⟩
    have m4 : (4 : Int) ≤ (m : Int) := by omega
    have mM : (8 : Int) * (m : Int) = (M : Int) := by omega
    have M0 : 0 < M := by omega
    have M1 : M ≤ 32032 := by omega
    have a1 : a < M := by rw [ha]; exact Nat.mod_lt _ M0
    have wM : IntKind.u32.wrap (8 * (m : Int)) = (M : Int) := by rw [mM, IntWalk.u32_in _ (by omega)]
    have rM : (U at_) % (M : Int) = (a : Int) := by unfold U; omega
    have tM : (U at_).tmod (M : Int) = (a : Int) := by rw [Int.tmod_eq_emod_of_nonneg (U_ge _)]; exact rM
    go_enter Tryd.func7, Tryd.ntmps7
    go_wp2_with fail
    refine (alive_any _ (HKW.out _ (Below.refl _ _))).mono ?_
    rintro e w1 ⟨rfl, L1⟩
    go_wp2_with fail
    refine (C3.out _ L1).mono ?_
    rintro e w2 ⟨rfl, hb2⟩
    have L2 := below_step L1 hb2
    clear hb2
    obtain ⟨w3, cap, hcv, hB, L3⟩ : ∃ w3 cap, (convert 9 40 (.string (sealS s))).run Tryd.prog w2 = .ok (.slice (some ⟨w2.heap.size, 0, none⟩) m cap) w3 ∧ Byt w3 w2.heap.size m (sAt (sealS s)) ∧ Below w.heap.size w w3 := by
      have hc := run_bytes_of_string (P := Tryd.prog) w2 9 40 5 (sealS s) ty9 ty40 ty5
      rw [ts, ← hm] at hc
      refine ⟨_, grownCap w2 m 0 5, hc, ?_, L2.drew.alloc L2.size _⟩
      have hn := Byt.new w2.drew (sealS s) (grownCap w2 m 0 5) (bytesRow (sealS s) (grownCap w2 m 0 5)).size ((bytesRow (sealS s) (grownCap w2 m 0 5)).size + 1) (bytesRow_lo _ _)
      rw [ts, ← hm] at hn
      exact hn
    have Hts := Lib.hid ts
    have Hm := Lib.hid hm
    have HM := Lib.hid hM
    have Ha := Lib.hid ha
    clear ts hm hM ha c1
    go_wp2_with fail
    have hbw : w.heap.size ≤ w2.heap.size := L2.size
    generalize w2.heap.size = b at hB hcv hbw ⊢
    go_loopw [9, 10, 11] (fun t i _ wr => ∃ (k : Nat) (g : Nat → UInt8) (E : W32), k ≤ 32 ∧ i = .int .i64 k ∧ t = .bool (!decide (E = 0#32)) ∧ Byt wr b m g ∧ feeds ones g m = stps 32 ones ^^^ stps (8 * m - a) E ∧ E.toNat < 2 ^ k ∧ Below w.heap.size w wr) (fun _ i _ _ => 32 - (intOf i).toNat)
    case atStart => exact ⟨0, sAt (sealS s), 0#32, by omega, rfl, rfl, hB, by rw [Hm.out, seal_fed, stps_zero, BitVec.xor_zero], by decide, L3⟩
    case round =>
      obtain ⟨k, g, E, hk, rfl, rfl, hBr, hF, hE, Lr⟩ := hrel
      have HF := Lib.hid hF
      have HE := Lib.hid hE
      generalize ht : (!decide (E = 0#32)) = tb
      have HT := Lib.hid ht
      clear hF hE ht hB L3
      by_cases hlt : k < 32
      · have ak : (0 : Int) ≤ (a : Int) + (k : Int) := by omega
        have wk : IntKind.i64.wrap ((a : Int) + (k : Int)) = (a : Int) + (k : Int) := IntWalk.i64_in _ (by omega)
        have yk : (k : Int) < 32 := by omega
        have uk : IntKind.u64.wrap (k : Int) = (k : Int) := IntWalk.u64_in _ (by omega)
        have b1' := U_and1 (burst >>> k)
        cases ho : odd (burst >>> k)
        · rw [ho] at b1'
          simp only [Bool.false_eq_true, if_false] at b1'
          go_wp2_with fail
          go_roundw
          case rel => exact ⟨k + 1, g, E, by omega, by go_num, by rw [← HT.out], hBr, HF.out, Nat.lt_of_lt_of_le HE.out (Nat.pow_le_pow_right (by omega) (by omega)), Lr⟩
          case measure => simp [intOf]; omega
        · rw [ho] at b1'
          simp only [if_true] at b1'
          by_cases hM2 : a + k < M
          · have pk : (a : Int) + (k : Int) < (M : Int) := by omega
            obtain ⟨q, hq⟩ : ∃ q, q = (a + k) / 8 := ⟨_, rfl⟩
            obtain ⟨r, hr⟩ : ∃ r, r = (a + k) % 8 := ⟨_, rfl⟩
            have q1 : ((a : Int) + (k : Int)) / 8 = (q : Int) := by omega
            have q2 : ((a : Int) + (k : Int)).tdiv 8 = (q : Int) := by rw [Int.tdiv_eq_ediv_of_nonneg ak]; exact q1
            have r1 : ((a : Int) + (k : Int)) % 8 = (r : Int) := by omega
            have r2 : ((a : Int) + (k : Int)).tmod 8 = (r : Int) := by rw [Int.tmod_eq_emod_of_nonneg ak]; exact r1
            have wq : IntKind.i64.wrap (q : Int) = (q : Int) := IntWalk.i64_in _ (by omega)
            have wr8 : IntKind.i64.wrap (r : Int) = (r : Int) := IntWalk.i64_in _ (by omega)
            have ur : IntKind.u64.wrap (r : Int) = (r : Int) := IntWalk.u64_in _ (by omega)
            have qm : q < m := by have := HM.out; omega
            have qm' : (q : Int) < (m : Int) := by omega
            have q0 : (0 : Int) ≤ (q : Int) := by omega
            have r0 : (0 : Int) ≤ (r : Int) := by omega
            have r8 : (r : Int) < 8 := by omega
            have ck := hBr.cell q qm
            have fk := hBr.frozen q qm
            have Hq := Lib.hid hq
            have Hr := Lib.hid hr
            clear hq hr
            go_wp2_with fail
            go_roundw
            case rel =>
              have hk8 : a + k < 8 * m := by have := HM.out; omega
              have eb := burst_bits E k hlt HE.out
              have hp : 0 < 2 ^ k := Nat.pow_pos (by omega)
              refine ⟨k + 1, flip g (a + k), E ^^^ BitVec.ofNat 32 (2 ^ k), by omega, by go_num, ?_, ?_, burst_step g m a k _ E hlt hk8 HF.out, ?_, Lr.setCell hbw _⟩
              · have hz : E ^^^ BitVec.ofNat 32 (2 ^ k) ≠ 0#32 := by
                  intro h
                  rw [h] at eb
                  have h2 : (0#32 : W32).toNat = 0 := rfl
                  omega
                rw [decide_eq_false hz]
                rfl
              · rw [flip_val _ _ (by omega)]
                refine hBr.set q (g q ^^^ bit8 r) _ fun j hj => ?_
                unfold flip
                rw [← Hq.out, ← Hr.out]
                by_cases c : j = q
                · rw [if_pos c, if_pos c, c]
                · rw [if_neg c, if_neg c]
              · rw [eb, Nat.pow_succ]
                have := HE.out
                omega
            case measure => simp [intOf]; omega
          · have pk : (M : Int) ≤ (a : Int) + (k : Int) := by omega
            go_wp2_with fail
            go_roundw
            case rel => exact ⟨k + 1, g, E, by omega, by go_num, by rw [← HT.out], hBr, HF.out, Nat.lt_of_lt_of_le HE.out (Nat.pow_le_pow_right (by omega) (by omega)), Lr⟩
            case measure => simp [intOf]; omega
      · have e : k = 32 := by omega
        subst e
        have hcb := conv_byt wr b m cap g hBr
        have C4 : Hid (∀ W, Below w.heap.size w W → Calls Tryd.prog 18 #[.string (str m g)] W fun e w' => e = .returned (.tuple #[.string (unS (str m g)), .bool (!tb)]) ∧ Below W.heap.size W w') := fun W L => by
          have h := unseal_any (str m g) W (by rw [str_size]; have := HM.out; omega) (HKW.out _ L)
          have he : okS (str m g) = !tb := by
            have h1 := HF.out
            have h2 := HT.out
            have h3 := Hm.out
            subst h3
            rw [burst_end g s.size a E h1, ← h2, Bool.not_not]
          rw [he] at h
          exact h
        generalize unS (str m g) = u at C4
        generalize str m g = t at C4 hcb
        clear hlt hk
        cases tb
        · go_wp2_with fail
          refine (C4.out _ Lr).mono ?_
          rintro e w4 ⟨rfl, hb4⟩
          have L4 := Lr.trans (hb4.mono Lr.size)
          clear hb4
          go_wp2_with fail
          refine (alive_any _ (HKW.out _ L4)).mono ?_
          rintro e w5 ⟨rfl, hb5⟩
          have L5 := L4.trans (hb5.mono L4.size)
          clear hb5
          go_wp2_with fail
          go_ret
          exact ⟨rfl, L5⟩
        · go_wp2_with fail
          refine (C4.out _ Lr).mono ?_
          rintro e w4 ⟨rfl, hb4⟩
          have L4 := Lr.trans (hb4.mono Lr.size)
          clear hb4
          go_wp2_with fail
          refine (alive_any _ (HKW.out _ L4)).mono ?_
          rintro e w5 ⟨rfl, hb5⟩
          have L5 := L4.trans (hb5.mono L4.size)
          clear hb5
          go_wp2_with fail
          go_ret
          exact ⟨rfl, L5⟩
end Go.Proofs.YthjeinedplbnmaaDoor
