import Derived.Test.YtnfhnkplkbpmpaaDoorT1
namespace Go.Proofs.YtnfhnkplkbpmpaaDoor
open Go.RowKit
/- a text of n bytes as a function tells them -/
def strL (n : Nat) (f : Nat → UInt8) : List UInt8 := (List.range n).map f
theorem strL_length (n : Nat) (f : Nat → UInt8) : (strL n f).length = n := by simp [strL]
theorem strL_get (n : Nat) (f : Nat → UInt8) (i : Nat) (h : i < (strL n f).length) : (strL n f)[i] = f i := by simp [strL]
theorem strL_succ (n : Nat) (f : Nat → UInt8) : strL (n + 1) f = strL n f ++ [f n] := by simp [strL, List.range_succ]
theorem strL_add (n m : Nat) (f : Nat → UInt8) : strL (n + m) f = strL n f ++ strL m (fun i => f (n + i)) := by
  induction m with
  | zero => simp [strL]
  | succ m ih => rw [← Nat.add_assoc, strL_succ, ih, strL_succ, List.append_assoc]
theorem strL_congr {n : Nat} {f g : Nat → UInt8} (h : ∀ i, i < n → f i = g i) : strL n f = strL n g := by
  unfold strL
  apply List.map_congr_left
  intro i hi
  exact h i (List.mem_range.1 hi)
def str (n : Nat) (f : Nat → UInt8) : ByteArray := ⟨(strL n f).toArray⟩
theorem str_size (n : Nat) (f : Nat → UInt8) : (str n f).size = n := by
  show (strL n f).toArray.size = n
  rw [List.size_toArray, strL_length]
theorem str_self (s : ByteArray) : s = str s.size (sAt s) := by
  have e : s.data.toList = strL s.size (sAt s) := by
    apply List.ext_getElem
    · rw [strL_length, Array.length_toList]; rfl
    · intro i h1 h2
      rw [strL_get]
      unfold sAt
      rw [List.getD_eq_getElem?_getD, List.getElem?_eq_getElem h1]; rfl
  apply ByteArray.ext
  show s.data = (strL s.size (sAt s)).toArray
  rw [← e, Array.toArray_toList]
theorem str_at (n : Nat) (f : Nat → UInt8) (i : Nat) (h : i < n) : sAt (str n f) i = f i := by
  unfold sAt str
  rw [List.getD_eq_getElem?_getD, List.toList_toArray, List.getElem?_eq_getElem (by rw [strL_length]; exact h), strL_get]; rfl
theorem str_push (n : Nat) (f : Nat → UInt8) (c : UInt8) (h : f n = c) : str n f ++ ⟨#[c]⟩ = str (n + 1) f := by
  unfold str
  rw [strL_succ, h]
  exact ByteArray.mk_append_mk _ [c]
theorem str_add (n m : Nat) (f g : Nat → UInt8) (h : ∀ i, i < m → f (n + i) = g i) : str n f ++ str m g = str (n + m) f := by
  unfold str
  rw [strL_add, strL_congr h]
  exact ByteArray.mk_append_mk _ _
theorem str_congr {n : Nat} {f g : Nat → UInt8} (h : ∀ i, i < n → f i = g i) : str n f = str n g := by unfold str; rw [strL_congr h]
def padded (s : ByteArray) : ByteArray := str (64 * nbl s.size) (pad (sAt s) s.size)
def sLen : Value → Nat
  | .string s => s.size
  | _ => 0
/- the eight bytes of the length, k of them written, from the last *-/
def endB (n k j : Nat) : UInt8 := if 8 ≤ j + k then lenByte n j else 0
theorem endB_step (n k : Nat) (hk : k < 8) (j : Nat) : endB n (k + 1) j = if j = 7 - k then UInt8.ofNat (8 * n / 256 ^ k % 256) else endB n k j := by
  unfold endB
  by_cases c : j = 7 - k
  · rw [if_pos c, if_pos (by omega)]
    unfold lenByte
    rw [show 7 - j = k by omega]
    apply UInt8.toNat_inj.1
    rw [UInt8.toNat_ofNat', UInt8.toNat_ofNat']
    omega
  · rw [if_neg c]
    by_cases c2 : 8 ≤ j + k
    · rw [if_pos c2, if_pos (by omega)]
    · rw [if_neg c2, if_neg (by omega)]
theorem ty57 : Tryd.prog.underlying 57 = some (.array 8 5) := by kernel_rfl
set_option maxHeartbeats 2000000 in
set_option maxRecDepth 100000 in
theorem lengthened_any (s : ByteArray) (w : World) (hs : s.size ≤ 1073741824) :
    Calls Tryd.prog 21 #[.string s] w fun e w' => e = .returned (.string (padded s)) ∧ Below w.heap.size w w' := by
  have hq : 64 * nbl s.size = 64 * ((s.size + 8) / 64) + 64 := by unfold nbl; omega
  have n1 : ¬ 9223372036854775807 < s.size + 1 := by omega
  have e0 : s ++ ⟨#[128]⟩ = str (s.size + 1) (pad (sAt s) s.size) := by
    have h1 : s ++ ⟨#[128]⟩ = str s.size (sAt s) ++ ⟨#[128]⟩ := congrArg (fun z => z ++ (⟨#[128]⟩ : ByteArray)) (str_self s)
    rw [h1, str_congr (g := pad (sAt s) s.size) (fun i hi => (pad_lt hi).symm)]
    exact str_push _ _ _ (by unfold pad; rw [if_neg (by omega), if_pos rfl])
  have l0 : (0 : Int) ≤ (s.size : Int) := by omega
  have e64 : IntKind.u64.wrap (s.size : Int) = (s.size : Int) := IntWalk.u64_in _ (by omega)
  have e8 : IntKind.u64.wrap ((s.size : Int) * 8) = ((8 * s.size / 256 ^ 0 : Nat) : Int) := by rw [IntWalk.u64_in _ (by omega)]; omega
  go_enter Tryd.func21, Tryd.ntmps21
  go_wp2
  clear e0 n1
  have HQ := Lib.hid hq
  clear hq
  go_loopw [3] (fun v wr => ∃ (m : Nat) (t : ByteArray), s.size < m ∧ m + 8 ≤ 64 * nbl s.size ∧ v = .string t ∧ t = str m (pad (sAt s) s.size) ∧ w = wr) (fun v _ => 64 * nbl s.size - sLen v)
  case atStart => exact ⟨s.size + 1, _, by omega, by have := HQ.out; omega, rfl, rfl, rfl⟩
  case round =>
    obtain ⟨m, t, hm1, hm2, rfl, ht, rfl⟩ := hrel
    have ts : t.size = m := by rw [ht]; exact str_size _ _
    have Ht := Lib.hid ht
    clear ht
    have Hts := Lib.hid ts
    have n1 : ¬ 9223372036854775807 < t.size + 1 := by have := HQ.out; omega
    obtain ⟨r, hr⟩ : ∃ r, r = m % 64 := ⟨_, rfl⟩
    have e3 : (t.size : Int).tmod 64 = (r : Int) := by rw [Int.tmod_eq_emod_of_nonneg (by omega)]; omega
    have e4 : (t.size : Int) % 64 = (r : Int) := by omega
    have Hr := Lib.hid hr
    clear hr ts
    by_cases c : r = 56
    · have b1 : ((r : Int) != 56) = false := by subst c; rfl
      have n9 : ¬ 9223372036854775807 < t.size + 8 := by have := HQ.out; have := Hts.out; omega
      have L0 : ∀ A, Below w.heap.size w (w.alloc A) := fun A => (Below.refl _ _).alloc (Nat.le_refl _) _
      have B0 : ∀ cs, cs = arr 8 (bv (endB s.size 0)) → Blk (w.alloc (.cells cs 57)) w.heap.size 57 8 (bv (endB s.size 0)) := fun cs h => Blk.newAt _ (heap_alloc_new _ _) h
      go_wp2
      go_loopw [4, 6] (fun v i wq => ∃ (k : Nat), k ≤ 8 ∧ i = .int .i64 k ∧ v = .int .u64 ((8 * s.size / 256 ^ k : Nat) : Int) ∧ Blk wq w.heap.size 57 8 (bv (endB s.size k)) ∧ Below w.heap.size w wq) (fun _ i _ => 8 - (intOf i).toNat)
      case atStart => exact ⟨0, by omega, rfl, congrArg (Value.int .u64) (by rw [Nat.pow_zero, Nat.div_one]; rfl), B0 _ (by rfl), L0 _⟩
      case round =>
        clear B0 L0
        obtain ⟨k, hk, rfl, rfl, hB, hbl⟩ := hrel
        by_cases hlt : k < 8
        · obtain ⟨q, hq⟩ : ∃ q, q = 8 * s.size / 256 ^ k := ⟨_, rfl⟩
          have lq : q ≤ 8 * s.size := by rw [hq]; exact Nat.div_le_self _ _
          have hq2 : q / 256 = 8 * s.size / 256 ^ (k + 1) := by rw [hq, Nat.div_div_eq_div_mul, ← Nat.pow_succ]
          have st := endB_step s.size k hlt
          rw [← hq] at st ⊢
          have St := Lib.hid st
          have Hq2 := Lib.hid hq2
          clear st hq hq2
          have w7 : IntKind.i64.wrap (7 - (k : Int)) = ((7 - k : Nat) : Int) := by rw [IntWalk.i64_in _ (by omega)]; omega
          have q1 : (q : Int).tmod 256 = ((q % 256 : Nat) : Int) := by rw [Int.tmod_eq_emod_of_nonneg (by omega)]; omega
          have q2 : (q : Int).tdiv 256 = ((q / 256 : Nat) : Int) := by rw [Int.tdiv_eq_ediv_of_nonneg (by omega)]; omega
          have q5 : (q : Int) % 256 = ((q % 256 : Nat) : Int) := by omega
          have q6 : (q : Int) / 256 = ((q / 256 : Nat) : Int) := by omega
          obtain ⟨r1, hr1⟩ : ∃ r1, r1 = q % 256 := ⟨_, rfl⟩
          obtain ⟨r2, hr2⟩ : ∃ r2, r2 = q / 256 := ⟨_, rfl⟩
          rw [← hr1] at q1 q5
          rw [← hr2] at q2 q6
          have u1 : IntKind.u8.wrap (r1 : Int) = (r1 : Int) := IntWalk.u8_in _ (by omega)
          have u2 : IntKind.u64.wrap (r1 : Int) = (r1 : Int) := IntWalk.u64_in _ (by omega)
          have u3 : IntKind.u64.wrap (r2 : Int) = (r2 : Int) := IntWalk.u64_in _ (by omega)
          obtain ⟨p, hp⟩ : ∃ p, p = 7 - k := ⟨_, rfl⟩
          rw [← hp] at w7
          have cB := hB.cell p (by omega)
          have fB := hB.frozen p
          have lp : (p : Int) < 8 := by omega
          have Hp := Lib.hid hp
          have Hr1 := Lib.hid hr1
          have Hr2 := Lib.hid hr2
          clear hp hr1 hr2
          go_wp2
          go_roundw
          case rel =>
            refine ⟨k + 1, by omega, by go_num, ?_, ?_, hbl.setCell (Nat.le_refl _) _⟩
            · rw [← Hq2.out, Hr2.out]
            · refine (hB.set p _).congr fun i hi => ?_
              have es := St.out i
              unfold bv
              rw [es, ← Hp.out, ← Hr1.out]
              by_cases c : i = p
              · rw [if_pos c, if_pos c, UInt8.toNat_ofNat']
                have := Hr1.out
                congr 1
                omega
              · rw [if_neg c, if_neg c]
          case measure => simp [intOf]; omega
        · have e : k = 8 := by omega
          subst e
          have hconv := run_convert_bytes_back (P := Tryd.prog) wr 53 9 5 ⟨w.heap.size, 0, none⟩ 8 (strL 8 (lenByte s.size)) ty53 ty5 ty9 (fun j hj => by
            have hj8 : j < 8 := by rw [strL_length] at hj; exact hj
            rw [Addr.add_mid, Nat.zero_add, hB.cell j hj8, strL_get]
            unfold bv endB
            rw [if_pos (by omega)])
          rw [strL_length] at hconv
          have fin : t ++ (⟨(strL 8 (lenByte s.size)).toArray⟩ : ByteArray) = padded s := by
            have h1 := HQ.out
            have h2 := Hr.out
            have hm : m + 8 = 64 * nbl s.size := by omega
            rw [Ht.out]
            unfold padded
            rw [← hm]
            exact str_add m 8 _ _ (fun i hi => by unfold pad; rw [if_neg (by omega), if_neg (by omega), if_neg (by omega), show m + i + 8 - 64 * nbl s.size = i by omega])
          have l8 : (strL 8 (lenByte s.size)).length = 8 := strL_length _ _
          generalize strL 8 (lenByte s.size) = L at hconv fin l8
          go_wp2
          go_ret
          exact ⟨rfl, hbl⟩
    · have b1 : ((r : Int) != 56) = true := by rw [bne_iff_ne]; omega
      go_wp2
      go_roundw
      case rel =>
        refine ⟨m + 1, t ++ ⟨#[0]⟩, by omega, ?_, rfl, ?_, trivial⟩
        · have h1 := HQ.out
          have h2 := Hr.out
          omega
        · rw [Ht.out]
          have h1 := HQ.out
          have h2 := Hr.out
          exact str_push _ _ _ (by unfold pad; rw [if_neg (by omega), if_neg (by omega), if_pos (by omega)])
      case measure =>
        have h1 := HQ.out
        have h2 := Hr.out
        have h3 := Hts.out
        have h5 : (t ++ (⟨#[0]⟩ : ByteArray)).size = t.size + 1 := by rw [ByteArray.size_append]; rfl
        simp only [sLen, h5, h3]
        omega
end Go.Proofs.YtnfhnkplkbpmpaaDoor
