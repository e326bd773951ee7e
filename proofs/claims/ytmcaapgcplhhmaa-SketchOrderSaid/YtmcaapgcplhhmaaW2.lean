import Derived.Test.YtmcaapgcplhhmaaT
import Derived.Deep.Cut
import Derived.Deep.RegionLaw
import Derived.Deep.RegionHeld3
/- Of: the sketch of some parts. -/
namespace Go.Proofs.Ytmcaapgcplhhmaa
open Go.RowKit
theorem run_store_complex (P : Program) (w : World) (a : Addr) (m : Mode) (k : FloatKind) (x y : Nat) : (store a (.complex k x y) m).run P w = stored P w a (.complex k x y) m := run_store P w a _ m rfl
attribute [local go_sem] run_store_complex
theorem ty28 : Try.prog.underlying 28 = some (.array 4 26) := by kernel_rfl
theorem sz28 : (Try.prog.info? 28).map (·.size) = some 4 := by kernel_rfl
theorem zero_sk : #[.complex .f64 0 0, .complex .f64 0 0, .complex .f64 0 0, .complex .f64 0 0] = arr 4 (sv (sk [])) := by
  rw [← sv_arr]
  show _ = #[Value.complex .f64 (FB 0) (FB 0), .complex .f64 (FB 0) (FB 0), .complex .f64 (FB 0) (FB 0), .complex .f64 (FB 0) (FB 0)]
  rw [FB_0]
/- one byte more -/
theorem sv_next (l : List UInt8) (b : UInt8) (j : Nat) : (if j = b.toNat % 4 then Value.complex .f64 (FB (sk l (2 * (b.toNat % 4)) + lo b)) (FB (sk l (2 * (b.toNat % 4) + 1) + hi b)) else sv (sk l) j) = sv (sk (l ++ [b])) j := by
  unfold sv
  rw [sk_snoc, sk_snoc]
  by_cases c : j = b.toNat % 4
  · subst c
    rw [if_pos rfl, part_re, part_im]
  · rw [if_neg c, part_no b (2 * j) (by omega), part_no b (2 * j + 1) (by omega), Int.add_zero, Int.add_zero]
theorem below_setRow {B : Nat} {w w' : World} (h : Below B w w') {g : Nat} (hg : B ≤ g) (cs : Array Value) : Below B w (w'.setRow g cs) :=
  h.trans ⟨rfl, rfl, rfl, by simp, fun k hk => setRow_other w' g k cs (by omega)⟩
set_option maxHeartbeats 1000000 in
theorem of_any (ss : Nat → ByteArray) (v : Value) (len : Nat) (w : World) (hl : len ≤ 1048576) (hn : (pre ss len).length ≤ 1048576) (hS : Strs w v ss len) :
    Calls Try.prog 11 #[v] w fun e w' => e = .returned (SV (sk (pre ss len))) ∧ Below w.heap.size w w' := by
  obtain ⟨ad, cap, rfl, ha⟩ := strs_addr hS
  clear hS
  have HA := Lib.hid ha
  have HN := Lib.hid hn
  clear ha hn
  go_enter Try.func11, Try.ntmps11
  go_wp2
  go_loopw [5, 6, 7, 10] (fun _ _ _ i wr => ∃ k : Nat, k ≤ len ∧ i = .int .i64 k ∧ Blk wr w.heap.size 28 4 (sv (sk [])) ∧ Blk wr (w.heap.size + 1) 28 4 (sv (sk (pre ss k))) ∧ Below w.heap.size w wr) (fun _ _ _ i _ => len - (intOf i).toNat)
  case atStart =>
    refine ⟨0, by omega, rfl, ?_, ?_, ?_⟩
    · exact (Blk.new w _ 28 4 _ zero_sk).alloc _
    · have h := Blk.new (w.alloc (.cells #[.complex .f64 0 0, .complex .f64 0 0, .complex .f64 0 0, .complex .f64 0 0] 28)) _ 28 4 _ zero_sk
      have e : (w.alloc (.cells #[.complex .f64 0 0, .complex .f64 0 0, .complex .f64 0 0, .complex .f64 0 0] 28)).heap.size = w.heap.size + 1 := by simp
      rw [e] at h
      exact h
    · exact ((Below.refl _ _).alloc (Nat.le_refl _) _).alloc (by simp) _
  case round =>
    obtain ⟨k, hk, rfl, hB0, hB1, hL⟩ := hrel
    by_cases hlt : k < len
    · obtain ⟨b, o, rfl, hb, hc⟩ := HA.out (by omega)
      have ck : wr.cell? ⟨b, o + k, none⟩ = some (.string (ss k)) := by rw [hL.cell hb]; exact hc k hlt
      clear hc
      have zk : (0 : Int) ≤ (k : Int) := by omega
      have yk : (k : Int) < (len : Int) := by omega
      have hsz : (pre ss k).length + (ss k).size ≤ 1048576 := by
        have h1 := pre_mono ss (show k + 1 ≤ len by omega)
        have h2 : (pre ss (k + 1)).length = (pre ss k).length + (ss k).size := by show (pre ss k ++ bl (ss k)).length = _; rw [List.length_append, bl_len]
        have := HN.out
        omega
      have HB0 := Lib.hid hB0
      have HB1 := Lib.hid hB1
      have HL := Lib.hid hL
      have HE : Hid (pre ss (k + 1) = pre ss k ++ bl (ss k)) := rfl
      clear hB0 hB1 hL
      generalize pre ss k = l at HB1 hsz HE
      go_wp2
      go_loopw [6, 7, 16] (fun _ _ i wr => ∃ j : Nat, j ≤ (ss k).size ∧ i = .int .i64 j ∧ Hid (Blk wr w.heap.size 28 4 (sv (sk []))) ∧ Hid (Blk wr (w.heap.size + 1) 28 4 (sv (sk (l ++ (bl (ss k)).take j)))) ∧ Hid (Below w.heap.size w wr)) (fun _ _ i _ => (ss k).size - (intOf i).toNat)
      case atStart => exact ⟨0, by omega, rfl, HB0, by rw [List.take_zero, List.append_nil]; exact HB1, HL⟩
      case round =>
        clear HB0 HB1 HL ck
        obtain ⟨j, hj, rfl, hB0, hB1, hL⟩ := hrel
        by_cases hlt2 : j < (ss k).size
        · have i1 := idx_str (ss k) j hlt2
          have yj : (j : Int) < ((ss k).size : Int) := by omega
          have zj : (0 : Int) ≤ (j : Int) := by omega
          have HT : Hid (l ++ (bl (ss k)).take (j + 1) = (l ++ (bl (ss k)).take j) ++ [sAt (ss k) j]) := by show _ = _; rw [take_next (ss k) j hlt2, List.append_assoc]
          have hlen : (l ++ (bl (ss k)).take j).length ≤ 1048576 := by rw [List.length_append, List.length_take, bl_len]; omega
          generalize l ++ (bl (ss k)).take j = m at hB1 HT hlen
          generalize sAt (ss k) j = c at i1 HT
          obtain ⟨q, hq⟩ : ∃ q, q = c.toNat % 4 := ⟨_, rfl⟩
          have q4 : q < 4 := by omega
          have t1 : ((c.toNat : Int)) % 4 = (q : Int) := by omega
          have c1 : wr.cell? ⟨w.heap.size + 1, q, none⟩ = some (.complex .f64 (FB (sk m (2 * q))) (FB (sk m (2 * q + 1)))) := hB1.out.cell q q4
          have l1 := sk_le m (2 * q)
          have l2 := sk_le m (2 * q + 1)
          have l3 := lo_le c
          have l4 := hi_le c
          have ca := cadd_run (sk m (2 * q)) (sk m (2 * q + 1)) (lo c) (hi c) (by omega) (by omega) (by omega) (by omega)
          have f1 : wr.frozen? ⟨w.heap.size + 1, q, none⟩ = false := hB1.out.frozen q
          have HV : Hid (∀ i, (if i = q then Value.complex .f64 (FB (sk m (2 * q) + lo c)) (FB (sk m (2 * q + 1) + hi c)) else sv (sk m) i) = sv (sk (m ++ [c])) i) := fun i => by rw [hq]; exact sv_next m c i
          have yq : (q : Int) < 4 := by omega
          have zq : (0 : Int) ≤ (q : Int) := by omega
          have zc : (0 : Int) ≤ (c.toNat : Int) := by omega
          have yc : (c.toNat : Int) < 256 := by have := c.toNat_lt; omega
          have wc : IntKind.i64.wrap (c.toNat : Int) = (c.toNat : Int) := IntWalk.i64_in _ (by omega)
          have t2 : ((c.toNat : Int)).tmod 4 = (q : Int) := by rw [Int.tmod_eq_emod_of_nonneg zc]; exact t1
          clear l1 l2 l3 l4 hq hlen q4
          generalize FB (sk m (2 * q) + lo c) = r1 at *
          generalize FB (sk m (2 * q + 1) + hi c) = r2 at *
          go_wp2
          go_region_with (first | (go_at_call 23; refine (byte_any _ _).mono ?_; rintro e w' ⟨rfl, rfl⟩))
          all_goals
            have H0 := Lib.hid ((hB0.out.setOther ⟨w.heap.size + 1, q, none⟩ (.complex .f64 r1 r2) (by show w.heap.size + 1 ≠ _; omega)).drew)
            have H1 := Lib.hid (((hB1.out.set q (.complex .f64 r1 r2)).congr (fun i _ => HV.out i)).drew)
            have H2 := Lib.hid ((hL.out.setCell (p := ⟨w.heap.size + 1, q, none⟩) (by show w.heap.size ≤ w.heap.size + 1; omega) (.complex .f64 r1 r2)).drew)
            rw [← HT.out] at H1
            clear hB0 hB1 hL c1 f1 ca HV i1
            generalize (wr.setCell ⟨w.heap.size + 1, q, none⟩ (.complex .f64 r1 r2)).drew = w5 at H0 H1 H2 ⊢
            go_wp2
            go_roundw
            case rel => exact ⟨j + 1, by omega, by go_num, H0, H1, H2⟩
            case measure => simp [intOf]; omega
        · have e : j = (ss k).size := by omega
          have HT : Hid (pre ss (k + 1) = l ++ (bl (ss k)).take j) := by show _ = _; rw [HE.out, List.take_of_length_le (by rw [bl_len]; omega)]
          rw [← HT.out] at hB1
          clear HT HE
          have yj : ((ss k).size : Int) ≤ (j : Int) := by omega
          go_wp2
          go_roundw
          case rel => exact ⟨k + 1, by omega, by go_num, hB0.out, hB1.out, hL.out⟩
          case measure => simp [intOf]; omega
    · have e : k = len := by omega
      subst e
      clear HA
      obtain ⟨z, hz⟩ : ∃ z, z = w.heap.size := ⟨_, rfl⟩
      rw [← hz] at hB0 hB1
      go_wp2_with (first | (refine wpList_load_blk rfl 28 (.tmp 3) rfl (w.heap.size + 1) rfl 28 4 (sv (sk (pre ss k))) (hz ▸ hB1) _ ty28 rfl sz28 ?_) | (refine wpList_store_blk rfl 28 (.tmp 2) (.tmp 33) rfl w.heap.size 4 (sv (sk (pre ss k))) (sv (sk [])) rfl rfl 28 (hz ▸ hB0) sz28 (fun _ _ => rfl) ?_))
      exact bodyPost_ret (v := SV (sk (pre ss k))) (results_blk rfl _ _ w.heap.size 28 4 _ ((hz ▸ hB0 : Blk wr w.heap.size 28 4 _).setRow _) _ rfl ty28 rfl sz28) rfl ⟨rfl, below_setRow hL (Nat.le_refl _) _⟩
end Go.Proofs.Ytmcaapgcplhhmaa
