import Derived.Test.YtekeaoolodmdaaaEL
import Derived.Test.YtekeaoolodmdaaaEE
/- How many bytes pieces have, as the reference tells it. -/
namespace Go.Proofs.Ytekeaoolodmdaaa
set_option maxRecDepth 100000
open Go.RowKit
/- the answer: how many, the error -/
def chk (b : Nat) (l : List Pz) : Nat × Int := if ∀ x ∈ l, good b x then (if szs l ≤ 4099 then (szs l, 0) else (0, 19)) else (0, 1)
theorem chk_bad {b : Nat} {l : List Pz} {k : Nat} (hk : k < l.length) (h : ¬ good b (l.getD k zz)) : chk b l = (0, 1) := by
  unfold chk
  rw [if_neg (fun h2 => h (h2 _ (getD_mem l zz k hk)))]
theorem all_getD {b : Nat} {l : List Pz} (h : ∀ k, k < l.length → good b (l.getD k zz)) : ∀ x ∈ l, good b x := by
  intro x hx
  obtain ⟨k, hk, rfl⟩ := List.mem_iff_getElem.1 hx
  have := h k hk
  rw [List.getD_eq_getElem?_getD, List.getElem?_eq_getElem hk] at this
  exact this
theorem chk_great {b : Nat} {l : List Pz} (h : ∀ k, k < l.length → good b (l.getD k zz)) (k : Nat) (hk : 4099 < szs (l.take k)) : chk b l = (0, 19) := by
  unfold chk
  have := szs_take_le l k
  rw [if_pos (all_getD h), if_neg (by omega)]
theorem chk_ok {b : Nat} {l : List Pz} (h : ∀ k, k < l.length → good b (l.getD k zz)) (hk : szs (l.take l.length) ≤ 4099) : chk b l = (szs (l.take l.length), 0) := by
  rw [List.take_length] at *
  unfold chk
  rw [if_pos (all_getD h), if_pos hk]
set_option maxHeartbeats 4000000 in
theorem check_any' (b : Nat) (l : List Pz) (v : Value) (w : World) (hb : b ≤ 4099) (hR : RowZ w v l) (hs : ∀ x ∈ l, small x) (hl : l.length ≤ 100000) :
    Calls Try.prog 44 #[.int .i64 (b : Int), v] w fun e w' => e = .returned (.tuple #[.int .i64 ((chk b l).1 : Int), .int .i64 (chk b l).2]) ∧ Below w.heap.size w w' := by
  obtain ⟨ad, cap, rfl, hc⟩ := hR.cells
  have C1 : Hid (∀ k, k < l.length → ∀ W, Calls Try.prog 58 #[.agg #[cpv (l.getD k zz), .string (bs (l.getD k zz).t)], .int .i64 (b : Int)] W fun e w' => e = .returned (.bool (decide (good b (l.getD k zz)))) ∧ Below W.heap.size W w') := fun k hk W => qright_any b (l.getD k zz) W hb (hs _ (getD_mem l zz k hk))
  have C2 : Hid (∀ k, k < l.length → ¬ (l.getD k zz).raw → good b (l.getD k zz) → ∀ W, Calls Try.prog 39 #[.agg #[cpv (l.getD k zz), .string (bs (l.getD k zz).t)], .int .i64 (b : Int)] W fun e w' => e = .returned (.tuple #[.int .i64 ((l.getD k zz).p : Int), .int .i64 ((l.getD k zz).n : Int), .bool true]) ∧ Below W.heap.size W w') := fun k hk h1 h2 W => qcopy_yes b (l.getD k zz) W hb (hs _ (getD_mem l zz k hk)) h1 h2
  have C3 : Hid (∀ k, k < l.length → (l.getD k zz).raw → ∀ W, Calls Try.prog 39 #[.agg #[cpv (l.getD k zz), .string (bs (l.getD k zz).t)], .int .i64 (b : Int)] W fun e w' => (∃ a c : Int, e = .returned (.tuple #[.int .i64 a, .int .i64 c, .bool false])) ∧ Below W.heap.size W w') := fun k hk h1 W => qcopy_no b (l.getD k zz) W hb (hs _ (getD_mem l zz k hk)) (fun h => h.1 h1)
  have HC := Lib.hid hc
  have HS : Hid (∀ k, k < l.length → szs (l.take (k + 1)) = szs (l.take k) + sz (l.getD k zz)) := fun k hk => by rw [take_next l zz k hk, szs_snoc]
  have HL := Lib.hid hl
  have t1 : ¬ (b : Int) < 0 := by omega
  have t2 : (b : Int) ≤ 4099 := by omega
  obtain ⟨R, hRR⟩ : ∃ R, R = chk b l := ⟨_, rfl⟩
  rw [← hRR]
  have HR := Lib.hid hRR
  clear hc hs hl hR hRR hb
  go_enter Try.func44, Try.ntmps44
  go_wp2
  go_loopw [6] (fun i wr => ∃ k : Nat, k ≤ l.length ∧ i = .int .i64 (k : Int) ∧ Hid (∀ j, j < k → good b (l.getD j zz)) ∧ Hid (Below w.heap.size w wr)) (fun i _ => l.length - (intOf i).toNat)
  case atStart => exact ⟨0, Nat.zero_le _, rfl, (fun j hj => by omega), Below.refl _ _⟩
  case round =>
    obtain ⟨k, hk, rfl, hG, hL⟩ := hrel
    by_cases hlt : k < l.length
    · obtain ⟨g, o, rfl, hgl, h0, h1⟩ := HC.out k hlt
      have c0 : wr.cell? ⟨g, o + k * 2, none⟩ = some (cpv (l.getD k zz)) := by rw [hL.out.cell hgl]; exact h0
      have c1 : wr.cell? ⟨g, o + k * 2 + 1, none⟩ = some (.string (bs (l.getD k zz).t)) := by rw [hL.out.cell hgl]; exact h1
      have D1 := Lib.hid (C1.out k hlt)
      have hl0 := HL.out
      have zk : (0 : Int) ≤ (k : Int) := by omega
      have yk : (k : Int) < (l.length : Int) := by omega
      have w5 : IntKind.i64.wrap ((k : Int) + 1) = (k : Int) + 1 := IntWalk.i64_in _ (by omega)
      have HB : Hid (¬ good b (l.getD k zz) → R = (0, 1)) := fun h => by rw [HR.out]; exact chk_bad hlt h
      have HG2 : Hid (good b (l.getD k zz) → ∀ j, j < k + 1 → good b (l.getD j zz)) := fun h j hj => by
        by_cases e : j = k
        · subst e; exact h
        · exact hG.out j (by omega)
      generalize hx : l.getD k zz = x at *
      unfold cpv at c0 D1
      generalize FB (x.p : Int) = P at *
      generalize FB (x.n : Int) = N at *
      generalize bs x.t = sb at *
      clear HC C1 C2 C3 HS hl0 h0 h1 hx
      by_cases hg : good b x
      · rw [decide_eq_true hg] at D1
        have G2 := Lib.hid (HG2.out hg)
        clear hg HB HG2 hG
        go_wp2_with fail
        refine (D1.out _).mono ?_
        rintro e w3 ⟨rfl, B3⟩
        have L3 := Lib.hid (hL.out.trans (B3.mono hL.out.size))
        clear B3 D1 hL c0 c1
        go_wp2
        go_roundw
        case rel => exact ⟨k + 1, by omega, by go_num, G2, L3⟩
        case measure => simp [intOf]; omega
      · rw [decide_eq_false hg] at D1
        have RB := Lib.hid (HB.out hg)
        clear hg HB HG2 hG
        go_wp2_with fail
        refine (D1.out _).mono ?_
        rintro e w3 ⟨rfl, B3⟩
        have L3 := Lib.hid (hL.out.trans (B3.mono hL.out.size))
        clear B3 D1 hL c0 c1
        go_wp2
        go_ret2
        exact ⟨by rw [RB.out]; rfl, L3.out⟩
    · have e : k = l.length := by omega
      subst e
      have HG : Hid (∀ k, k < l.length → R = (if h : 4099 < szs (l.take (k + 1)) then (0, 19) else R)) := fun k hk => by
        split
        · rename_i h; rw [HR.out]; exact chk_great hG.out (k + 1) h
        · rfl
      have HF : Hid (szs (l.take l.length) ≤ 4099 → R = (szs (l.take l.length), 0)) := fun h => by rw [HR.out]; exact chk_ok hG.out h
      go_wp2
      go_loopw [7, 8] (fun n i wr => ∃ k : Nat, k ≤ l.length ∧ i = .int .i64 (k : Int) ∧ n = .int .i64 (szs (l.take k) : Int) ∧ Hid (szs (l.take k) ≤ 4099) ∧ Hid (Below w.heap.size w wr)) (fun _ i _ => l.length - (intOf i).toNat)
      case atStart => exact ⟨0, Nat.zero_le _, rfl, rfl, (by show szs (l.take 0) ≤ 4099; rw [List.take_zero]; decide), hL⟩
      case round =>
        obtain ⟨k, hk, rfl, rfl, hM, hL⟩ := hrel
        by_cases hlt : k < l.length
        · obtain ⟨g, o, rfl, hgl, h0, h1⟩ := HC.out k hlt
          have c0 : wr.cell? ⟨g, o + k * 2, none⟩ = some (cpv (l.getD k zz)) := by rw [hL.out.cell hgl]; exact h0
          have c1 : wr.cell? ⟨g, o + k * 2 + 1, none⟩ = some (.string (bs (l.getD k zz).t)) := by rw [hL.out.cell hgl]; exact h1
          have D2 := C2.out k hlt
          have D3 := C3.out k hlt
          have hgood := hG.out k hlt
          have hz := sz_le hgood
          have S1 := HS.out k hlt
          have hM0 := hM.out
          have hl0 := HL.out
          have HGR := Lib.hid (HG.out k hlt)
          have zk : (0 : Int) ≤ (k : Int) := by omega
          have yk : (k : Int) < (l.length : Int) := by omega
          have w5 : IntKind.i64.wrap ((k : Int) + 1) = (k : Int) + 1 := IntWalk.i64_in _ (by omega)
          have ht := bs_size (l.getD k zz).t
          have hsz : sz (l.getD k zz) = if (l.getD k zz).raw then (l.getD k zz).t.length else (l.getD k zz).n := rfl
          generalize hx : l.getD k zz = x at *
          unfold cpv at c0 D2 D3
          generalize FB (x.p : Int) = P at *
          generalize FB (x.n : Int) = N at *
          generalize bs x.t = sb at *
          generalize hA : szs (l.take (k + 1)) = A at *
          generalize szs (l.take k) = A0 at *
          have HA := Lib.hid hA
          have HGL := Lib.hid hgl
          have H1 := Lib.hid h1
          clear HC C1 C2 C3 HS hl0 h0 h1 hx HG HF hG hA hgl
          by_cases cr : x.raw
          · rw [if_pos cr] at hsz
            have D1 := Lib.hid (D3 cr)
            have w6 : IntKind.i64.wrap ((A0 : Int) + (sb.size : Int)) = (A : Int) := by rw [S1, hsz, ht]; exact IntWalk.i64_in _ (by omega)
            clear D2 D3 cr hgood hz S1 hsz ht
            by_cases cA : A ≤ 4099
            · have HB1 : Hid (A ≤ 4099) := cA
              have t5 : (A : Int) ≤ 4099 := by omega
              clear cA HGR
              go_wp2_with fail
              refine (D1.out _).mono ?_
              rintro e w3 ⟨⟨a, c, rfl⟩, B3⟩
              have LZ := Lib.hid (hL.out.trans (B3.mono hL.out.size))
              have d1 : w3.cell? ⟨g, o + k * 2 + 1, none⟩ = some (.string sb) := by rw [LZ.out.cell HGL.out]; exact H1.out
              clear B3 D1 hL c0 c1
              go_wp2
              go_roundw
              case rel => exact ⟨k + 1, by omega, by go_num, by rw [HA.out], by show szs (l.take (k + 1)) ≤ 4099; rw [HA.out]; exact HB1.out, LZ⟩
              case measure => simp [intOf]; omega
            · have HB1 : Hid (R = (0, 19)) := by
                have := HGR.out
                rw [dif_pos (by omega)] at this
                exact this
              have t5 : (4099 : Int) < (A : Int) := by omega
              clear cA HGR
              go_wp2_with fail
              refine (D1.out _).mono ?_
              rintro e w3 ⟨⟨a, c, rfl⟩, B3⟩
              have LZ := Lib.hid (hL.out.trans (B3.mono hL.out.size))
              have d1 : w3.cell? ⟨g, o + k * 2 + 1, none⟩ = some (.string sb) := by rw [LZ.out.cell HGL.out]; exact H1.out
              clear B3 D1 hL c0 c1
              go_wp2
              go_ret2
              exact ⟨by rw [HB1.out]; rfl, LZ.out⟩
          · rw [if_neg cr] at hsz
            have D1 := Lib.hid (D2 cr hgood)
            have w6 : IntKind.i64.wrap ((A0 : Int) + (x.n : Int)) = (A : Int) := by rw [S1, hsz]; exact IntWalk.i64_in _ (by omega)
            clear D2 D3 cr hgood hz S1 hsz ht
            by_cases cA : A ≤ 4099
            · have HB1 : Hid (A ≤ 4099) := cA
              have t5 : (A : Int) ≤ 4099 := by omega
              clear cA HGR
              go_wp2_with fail
              refine (D1.out _).mono ?_
              rintro e w3 ⟨rfl, B3⟩
              have LZ := Lib.hid (hL.out.trans (B3.mono hL.out.size))
              clear B3 D1 hL c0 c1
              go_wp2
              go_roundw
              case rel => exact ⟨k + 1, by omega, by go_num, by rw [HA.out], by show szs (l.take (k + 1)) ≤ 4099; rw [HA.out]; exact HB1.out, LZ⟩
              case measure => simp [intOf]; omega
            · have HB1 : Hid (R = (0, 19)) := by
                have := HGR.out
                rw [dif_pos (by omega)] at this
                exact this
              have t5 : (4099 : Int) < (A : Int) := by omega
              clear cA HGR
              go_wp2_with fail
              refine (D1.out _).mono ?_
              rintro e w3 ⟨rfl, B3⟩
              have LZ := Lib.hid (hL.out.trans (B3.mono hL.out.size))
              clear B3 D1 hL c0 c1
              go_wp2
              go_ret2
              exact ⟨by rw [HB1.out]; rfl, LZ.out⟩
        · have e : k = l.length := by omega
          subst e
          have RF := Lib.hid (HF.out hM.out)
          clear HC C1 C2 C3 HS HG HF hG
          go_wp2
          go_ret2
          exact ⟨by rw [RF.out]; rfl, hL.out⟩
end Go.Proofs.Ytekeaoolodmdaaa
