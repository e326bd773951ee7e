import Derived.Test.YtnfhnkplkbpmpaaDoorW8
import Derived.Test.YtnfhnkplkbpmpaaDoorPe
namespace Go.Proofs.YtnfhnkplkbpmpaaDoor
open Go.RowKit
set_option maxHeartbeats 1000000 in
set_option maxRecDepth 100000 in
theorem half_any (c : UInt8) (w : World) :
    Calls Tryd.prog 24 #[.int .u8 (c.toNat : Int)] w fun e w' => e = .returned (.tuple #[.int .u8 (hx c : Int), .bool (hok c)]) ∧ w = w' := by
  have hlt := c.toNat_lt
  by_cases h1 : 48 ≤ c.toNat ∧ c.toNat ≤ 57
  · obtain ⟨a1, a2⟩ := h1
    have e : hx c = c.toNat - 48 := by unfold hx; rw [if_pos ⟨a1, a2⟩]
    have e2 : hok c = true := by unfold hok; simp [a1, a2]
    rw [e, e2]
    have e3 : ((c.toNat - 48 : Nat) : Int) = (c.toNat : Int) - 48 := by omega
    rw [e3]
    clear e e2 e3
    have b1 : (48 : Int) ≤ (c.toNat : Int) := by omega
    have b2 : (c.toNat : Int) ≤ 57 := by omega
    go_enter Tryd.func24, Tryd.ntmps24
    go_wp2
    go_ret2
    exact ⟨rfl, rfl⟩
  · by_cases h2 : 97 ≤ c.toNat ∧ c.toNat ≤ 102
    · obtain ⟨a1, a2⟩ := h2
      have e : hx c = c.toNat - 87 := by unfold hx; rw [if_neg h1, if_pos ⟨a1, a2⟩]
      have e2 : hok c = true := by unfold hok; simp [a1, a2]
      rw [e, e2]
      have e3 : ((c.toNat - 87 : Nat) : Int) = (c.toNat : Int) - 97 + 10 := by omega
      rw [e3]
      clear e e2 e3 h1
      have b1 : (97 : Int) ≤ (c.toNat : Int) := by omega
      have b2 : (c.toNat : Int) ≤ 102 := by omega
      have b3 : (48 : Int) ≤ (c.toNat : Int) := by omega
      have b4 : decide ((c.toNat : Int) ≤ 57) = false := by simp; omega
      go_enter Tryd.func24, Tryd.ntmps24
      go_wp2
      go_ret2
      exact ⟨rfl, rfl⟩
    · have e : hx c = 0 := by unfold hx; rw [if_neg h1, if_neg h2]
      have e2 : hok c = false := by unfold hok; simp; omega
      rw [e, e2]
      clear e e2
      by_cases c1 : 48 ≤ c.toNat
      · by_cases c2 : 97 ≤ c.toNat
        · have b1 : (97 : Int) ≤ (c.toNat : Int) := by omega
          have b2 : decide ((c.toNat : Int) ≤ 102) = false := by simp; omega
          have b3 : (48 : Int) ≤ (c.toNat : Int) := by omega
          have b4 : decide ((c.toNat : Int) ≤ 57) = false := by simp; omega
          clear h1 h2
          go_enter Tryd.func24, Tryd.ntmps24
          go_wp2
          go_ret2
          exact ⟨rfl, rfl⟩
        · have b1 : decide ((97 : Int) ≤ (c.toNat : Int)) = false := by simp; omega
          have b3 : (48 : Int) ≤ (c.toNat : Int) := by omega
          have b4 : decide ((c.toNat : Int) ≤ 57) = false := by simp; omega
          clear h1 h2
          go_enter Tryd.func24, Tryd.ntmps24
          go_wp2
          go_ret2
          exact ⟨rfl, rfl⟩
      · have b1 : decide ((97 : Int) ≤ (c.toNat : Int)) = false := by simp; omega
        have b3 : decide ((48 : Int) ≤ (c.toNat : Int)) = false := by simp; omega
        clear h1 h2
        go_enter Tryd.func24, Tryd.ntmps24
        go_wp2
        go_ret2
        exact ⟨rfl, rfl⟩
def digitsB : ByteArray := { data := #[48, 49, 50, 51, 52, 53, 54, 55, 56, 57, 97, 98, 99, 100, 101, 102] }
theorem idx_digit (n : Nat) (hn : n < 16) (w : World) : (Instr.index 9 (.string { data := #[48, 49, 50, 51, 52, 53, 54, 55, 56, 57, 97, 98, 99, 100, 101, 102] }) (.int .u8 (n : Int))).run Tryd.prog w = .ok (.int .u8 ((dgt n).toNat : Int)) w := by
  match n, hn with
  | 0, _ => rfl
  | 1, _ => rfl
  | 2, _ => rfl
  | 3, _ => rfl
  | 4, _ => rfl
  | 5, _ => rfl
  | 6, _ => rfl
  | 7, _ => rfl
  | 8, _ => rfl
  | 9, _ => rfl
  | 10, _ => rfl
  | 11, _ => rfl
  | 12, _ => rfl
  | 13, _ => rfl
  | 14, _ => rfl
  | 15, _ => rfl
  | n + 16, h => omega
theorem ty5 : Tryd.prog.underlying 5 = some (.int .u8) := by kernel_rfl
theorem ty9 : Tryd.prog.underlying 9 = some .string := by kernel_rfl
theorem run_index_arr8 (w : World) (ty elem : TypeId) (n : Nat) (f : Nat → Value) (k : IntKind) (i : Nat) {P : Program} (hu : P.underlying ty = some (.array n elem)) (hs : (P.info? elem).map (·.size) = some 1)
    (ha : P.underlying elem = some (.int .u8)) (hi : i < n) :
    (Instr.index ty (.agg (arr n f)) (.int k (i : Int))).run P w = .ok (f i) w := by
  cases hq : P.info? elem with
  | none => simp [hq] at hs
  | some d =>
    have hd : d.size = 1 := by simpa [hq] using hs
    have hagg : (isAgg elem).run P w = .ok false w := by
      unfold isAgg
      rw [Sem.run_bind, run_underlying ha w]; rfl
    have hp : (part elem (arr n f) i).run P w = .ok (f i) w := by
      unfold part
      rw [Sem.run_bind, hagg]
      simp [arr_get n f i hi]
    have hai : (asIntOf (.int k (i : Int))).run P w = .ok (k, (i : Int)) w := rfl
    simp [Instr.index, run_underlying hu, sizeOf, typeInfo, hq, hd, hi, hai, hp]
set_option maxHeartbeats 1000000 in
set_option maxRecDepth 100000 in
theorem hex_any (f : Nat → UInt8) (w : World) :
    Calls Tryd.prog 18 #[.agg (arr 32 (bv f))] w fun e w' => e = .returned (.string ⟨(hexL f 32).toArray⟩) ∧ Below w.heap.size w w' := by
  have S0 : ∀ A B, Blk ((w.alloc (.cells (arr 32 (bv f)) A)).alloc B) w.heap.size A 32 (bv f) := fun A B => Blk.newAt _ (heap_alloc2_old w _ _) rfl
  go_enter Tryd.func18, Tryd.ntmps18
  go_wp2_with (refine wpList_load_blk rfl 26 (.tmp 1) rfl w.heap.size rfl 26 32 (bv f) (S0 _ _) _ ty26 rfl sz26 ?_)
  clear S0
  go_loopw [7] (fun i wr => ∃ (k : Nat) (g : Nat → UInt8), k ≤ 32 ∧ i = .int .i64 k ∧ Blk wr (w.heap.size + 1) 32 64 (bv g) ∧ (∀ j, j < 2 * k → g j = hexAt f j) ∧ Below w.heap.size w wr)
    (fun i _ => 32 - (intOf i).toNat)
  case atStart => exact ⟨0, fun _ => 0, by omega, rfl, Blk.newAt _ (heap_alloc2_new w _ _) (by rfl), fun j hj => absurd hj (by omega), ((Below.refl _ _).alloc (Nat.le_refl _) _).alloc (by simp) _⟩
  case round =>
    obtain ⟨k, g, hk, rfl, hB, hg, hbl⟩ := hrel
    have G := Lib.hid hg
    clear hg
    by_cases hlt : k < 32
    · have ix : ∀ w, (Instr.index 26 (.agg (arr 32 (bv f))) (.int .i64 (k : Int))).run Tryd.prog w = .ok (.int .u8 ((f k).toNat : Int)) w := fun w => run_index_arr8 w 26 5 32 (bv f) .i64 k ty26 sz5 ty5 hlt
      have hf := (f k).toNat_lt
      obtain ⟨hi, hhi⟩ : ∃ hi, hi = (f k).toNat / 16 := ⟨_, rfl⟩
      obtain ⟨lo, hlo⟩ : ∃ lo, lo = (f k).toNat % 16 := ⟨_, rfl⟩
      have e1 : ((f k).toNat : Int) / 16 = (hi : Int) := by omega
      have e2 : bits .and .u8 ((f k).toNat : Int) 15 = (lo : Int) := by rw [and15 (f k).toNat (by omega), hlo]
      have i1 := idx_digit hi (by omega)
      have i2 := idx_digit lo (by omega)
      have Hhi := Lib.hid hhi
      have Hlo := Lib.hid hlo
      clear hhi hlo
      have c1 := hB.cell (2 * k) (by omega)
      have c2 := hB.cell (2 * k + 1) (by omega)
      have f1 := hB.frozen (2 * k)
      have f2 := hB.frozen (2 * k + 1)
      go_wp2
      go_roundw
      case rel =>
        refine ⟨k + 1, fun j => if j = 2 * k + 1 then dgt lo else if j = 2 * k then dgt hi else g j, by omega, by go_num, ?_, ?_, (hbl.setCell (by simp) _).setCell (by simp) _⟩
        · refine ((hB.set (2 * k) _).set (2 * k + 1) _).congr fun i hi => ?_
          unfold bv
          dsimp only
          by_cases c : i = 2 * k + 1
          · rw [if_pos c, if_pos c]
          · rw [if_neg c, if_neg c]
            by_cases c2 : i = 2 * k
            · rw [if_pos c2, if_pos c2]
            · rw [if_neg c2, if_neg c2]
        · intro j hj
          have h1 := Hhi.out
          have h2 := Hlo.out
          by_cases c : j = 2 * k + 1
          · simp only [if_pos c]
            unfold hexAt
            rw [if_neg (by omega), h2, c, show (2 * k + 1) / 2 = k by omega]
          · simp only [if_neg c]
            by_cases c2 : j = 2 * k
            · simp only [if_pos c2]
              unfold hexAt
              rw [if_pos (by omega), h1, c2, show 2 * k / 2 = k by omega]
            · simp only [if_neg c2]
              exact G.out j (by omega)
      case measure => simp [intOf]; omega
    · have e : Hid (k = 32) := by show k = 32; omega
      have hconv := run_convert_bytes_back (P := Tryd.prog) wr 53 9 5 ⟨w.heap.size + 1, 0, none⟩ 64 (hexL f 32) ty53 ty5 ty9 (fun j hj => by
        have hj64 : j < 64 := by rw [hexL_length] at hj; exact hj
        have ek := e.out
        rw [Addr.add_mid, Nat.zero_add, hB.cell j hj64]
        unfold bv
        rw [G.out j (by omega)]
        have h2 := hexL_get f 32 j hj64
        rw [List.getElem?_eq_getElem hj] at h2
        rw [Option.some.inj h2])
      rw [hexL_length] at hconv
      go_wp2
      go_ret
      exact ⟨rfl, hbl⟩
end Go.Proofs.YtnfhnkplkbpmpaaDoor
