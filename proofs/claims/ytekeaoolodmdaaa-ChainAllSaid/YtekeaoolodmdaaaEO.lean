import Derived.Test.YtekeaoolodmdaaaEN
import Derived.Test.YtekeaoolodmdaaaE9
/- The text of pieces, the reference's. -/
namespace Go.Proofs.Ytekeaoolodmdaaa
set_option maxRecDepth 100000
open Go.RowKit
set_option maxHeartbeats 4000000 in
theorem qtext_any (B : List UInt8) (l : List Pz) (v : Value) (w : World) (hb : B.length ≤ 4099) (hR : RowZ w v l) (hg : ∀ x ∈ l, good B.length x) (hs : ∀ x ∈ l, small x) (hsz : szs l ≤ 4099) :
    Calls Try.prog 33 #[.string (bs B), v] w fun e w' => e = .returned (.tuple #[.string (bs (tzs B l)), .int .i64 0]) ∧ Below w.heap.size w w' := by
  have hzB := bs_size B
  have hchk : chk B.length l = (szs l, 0) := by unfold chk; rw [if_pos hg, if_pos hsz]
  have hge := szs_ge hg
  have C0 : Hid (∀ W, RowZ W v l → Calls Try.prog 44 #[.int .i64 ((bs B).size : Int), v] W fun e w' => e = .returned (.tuple #[.int .i64 (szs l : Int), .int .i64 0]) ∧ Below W.heap.size W w') := fun W h => by
    have := check_any' B.length l v W hb h hs (by omega)
    rw [hchk] at this
    rw [hzB]
    exact this
  have HR := Lib.hid hR
  obtain ⟨ad, cap, rfl, hc⟩ := hR.cells
  have C2 : Hid (∀ k, k < l.length → ¬ (l.getD k zz).raw → ∀ W, Calls Try.prog 39 #[.agg #[cpv (l.getD k zz), .string (bs (l.getD k zz).t)], .int .i64 ((bs B).size : Int)] W fun e w' => e = .returned (.tuple #[.int .i64 ((l.getD k zz).p : Int), .int .i64 ((l.getD k zz).n : Int), .bool true]) ∧ Below W.heap.size W w') := fun k hk h1 W => by
    rw [hzB]
    exact qcopy_yes B.length (l.getD k zz) W hb (hs _ (getD_mem l zz k hk)) h1 (hg _ (getD_mem l zz k hk))
  have C3 : Hid (∀ k, k < l.length → (l.getD k zz).raw → ∀ W, Calls Try.prog 39 #[.agg #[cpv (l.getD k zz), .string (bs (l.getD k zz).t)], .int .i64 ((bs B).size : Int)] W fun e w' => (∃ a c : Int, e = .returned (.tuple #[.int .i64 a, .int .i64 c, .bool false])) ∧ Below W.heap.size W w') := fun k hk h1 W => by
    rw [hzB]
    exact qcopy_no B.length (l.getD k zz) W hb (hs _ (getD_mem l zz k hk)) (fun h => h.1 h1)
  have HC := Lib.hid hc
  have HG : Hid (∀ k, k < l.length → good B.length (l.getD k zz)) := fun k hk => hg _ (getD_mem l zz k hk)
  have HS : Hid (∀ k, k < l.length → tzs B (l.take (k + 1)) = tzs B (l.take k) ++ tz B (l.getD k zz)) := fun k hk => by rw [take_next l zz k hk, tzs_snoc]
  have HM : Hid (∀ k, (tzs B (l.take k)).length ≤ 4099) := fun k => by rw [tzs_take_len hg rfl]; exact Nat.le_trans (szs_take_le l k) hsz
  have HL : Hid (l.length ≤ 4099) := Nat.le_trans hge hsz
  have HE : Hid (tzs B (l.take l.length) = tzs B l) := by show _ = _; rw [List.take_length]
  have HZ : Hid ((bs B).size = B.length) := bs_size B
  have HX : Hid (∀ p n, (bs B).extract p (p + n) = bs ((B.drop p).take n)) := slice_bs B
  have HB := Lib.hid hb
  have H00 : Hid ((⟨#[]⟩ : ByteArray) = bs (tzs B (l.take 0))) := by show _ = _; rw [List.take_zero]; rfl
  clear hc hg hs hsz hR hb hzB hchk hge
  generalize bs B = sB at *
  go_enter Try.func33, Try.ntmps33
  go_wp2_with fail
  refine (C0.out _ HR.out).mono ?_
  rintro e w1 ⟨rfl, B1⟩
  have L1 := Lib.hid B1
  clear B1 C0 HR
  go_wp2
  go_loopw [8, 9] (fun q i wr => ∃ (k : Nat) (sa : ByteArray), k ≤ l.length ∧ i = .int .i64 (k : Int) ∧ q = .string sa ∧ Hid (sa = bs (tzs B (l.take k))) ∧ Hid (Below w.heap.size w wr)) (fun _ i _ => l.length - (intOf i).toNat)
  case atStart => exact ⟨0, _, Nat.zero_le _, rfl, rfl, H00, L1⟩
  case round =>
    obtain ⟨k, sa, hk, rfl, rfl, hA, hL⟩ := hrel
    clear H00 L1
    by_cases hlt : k < l.length
    · obtain ⟨g, o, rfl, hgl, h0, h1⟩ := HC.out k hlt
      have c0 : wr.cell? ⟨g, o + k * 2, none⟩ = some (cpv (l.getD k zz)) := by rw [hL.out.cell hgl]; exact h0
      have c1 : wr.cell? ⟨g, o + k * 2 + 1, none⟩ = some (.string (bs (l.getD k zz).t)) := by rw [hL.out.cell hgl]; exact h1
      have D2 := C2.out k hlt
      have D3 := C3.out k hlt
      have S1 := HS.out k hlt
      have G1 := HG.out k hlt
      have M1 := HM.out (k + 1)
      have hl0 := HL.out
      have hB0 := HB.out
      have hZ0 := HZ.out
      have zk : (0 : Int) ≤ (k : Int) := by omega
      have yk : (k : Int) < (l.length : Int) := by omega
      have w1' : IntKind.i64.wrap ((k : Int) + 1) = (k : Int) + 1 := IntWalk.i64_in _ (by omega)
      have hsa : sa.size = (tzs B (l.take k)).length := by rw [hA.out, bs_size]
      generalize hx : l.getD k zz = x at *
      have ht : tz B x = if x.raw then x.t else (B.drop x.p).take x.n := rfl
      have zt := bs_size x.t
      have zl := tz_len G1 rfl
      have zs : sz x = if x.raw then x.t.length else x.n := rfl
      rw [S1, List.length_append] at M1
      clear C2 C3 HC HS HG HM HE h0 hx hl0
      by_cases cr : x.raw
      · rw [if_pos cr] at ht zs
        have D1 := Lib.hid (D3 cr)
        have hcat : sa ++ bs x.t = bs (tzs B (l.take (k + 1))) := by rw [S1, hA.out, bs_append, ht]
        have hbig : ¬ (9223372036854775807 < sa.size + (bs x.t).size) := by rw [zt]; omega
        generalize hQ : bs (tzs B (l.take (k + 1))) = sa2 at hcat
        have HQ := Lib.hid hQ
        unfold cpv at c0 D1
        generalize FB (x.p : Int) = P at *
        generalize FB (x.n : Int) = N at *
        generalize bs x.t = sb at *
        have HGL := Lib.hid hgl
        have H1 := Lib.hid h1
        clear D2 D3 S1 G1 M1 hB0 hZ0 hsa ht zt zl zs cr hQ hgl h1 hA hk
        go_wp2_with fail
        refine (D1.out _).mono ?_
        rintro e w3 ⟨⟨a, c, rfl⟩, B3⟩
        have L3 := Lib.hid (hL.out.trans (B3.mono hL.out.size))
        have d1 : w3.cell? ⟨g, o + k * 2 + 1, none⟩ = some (.string sb) := by rw [L3.out.cell HGL.out]; exact H1.out
        clear B3 D1 hL c0 c1
        go_wp2
        go_roundw
        case rel => exact ⟨k + 1, _, by omega, by go_num, rfl, HQ.out.symm, L3⟩
        case measure => simp [intOf]; omega
      · rw [if_neg cr] at ht zs
        have hg2 : x.p + x.n ≤ B.length := by
          unfold good at G1
          rw [if_neg cr] at G1
          exact G1.2.2.2
        have D1 := Lib.hid (D2 cr)
        have hcat : sa ++ sB.extract x.p (x.p + x.n) = bs (tzs B (l.take (k + 1))) := by rw [S1, hA.out, HX.out, bs_append, ht]
        have hsz : (sB.extract x.p (x.p + x.n)).size = x.n := by rw [HX.out, bs_size, ← ht, zl, zs]
        have hbig : ¬ (9223372036854775807 < sa.size + x.n) := by omega
        have z1 : (0 : Int) ≤ (x.p : Int) := by omega
        have z2 : (x.p : Int) ≤ (x.p : Int) + (x.n : Int) := by omega
        have z3 : (x.p : Int) + (x.n : Int) ≤ (sB.size : Int) := by omega
        have w5 : IntKind.i64.wrap ((x.p : Int) + (x.n : Int)) = (x.p : Int) + (x.n : Int) := IntWalk.i64_in _ (by omega)
        have e5 : ((x.p : Int) + (x.n : Int)).toNat = x.p + x.n := by omega
        generalize hQ : bs (tzs B (l.take (k + 1))) = sa2 at hcat
        have HQ := Lib.hid hQ
        unfold cpv at c0 D1
        generalize FB (x.p : Int) = P at *
        generalize FB (x.n : Int) = N at *
        generalize bs x.t = sb at *
        clear D2 D3 S1 G1 M1 hB0 hZ0 hsa ht zt zl zs cr hQ hgl h1 hA hk hg2
        go_wp2_with fail
        refine (D1.out _).mono ?_
        rintro e w3 ⟨rfl, B3⟩
        have L3 := Lib.hid (hL.out.trans (B3.mono hL.out.size))
        clear B3 D1 hL c0 c1
        go_wp2
        go_roundw
        case rel => exact ⟨k + 1, _, by omega, by go_num, rfl, HQ.out.symm, L3⟩
        case measure => simp [intOf]; omega
    · have e : k = l.length := by omega
      subst e
      have e2 : sa = bs (tzs B l) := by rw [hA.out, HE.out]
      subst e2
      clear C2 C3 HC HG HS HM HX HZ
      go_wp2
      go_ret2
      exact ⟨rfl, hL.out⟩
end Go.Proofs.Ytekeaoolodmdaaa
