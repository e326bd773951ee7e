import Derived.Test.YtekeaoolodmdaaaHL
import Derived.Test.YtekeaoolodmdaaaHQ
/- The reference's text of a part. -/
namespace Go.Proofs.Ytekeaoolodmdaaa
set_option maxRecDepth 100000
open Go.RowKit
def qtextR (l : List Pt) (at_ : Int) : List UInt8 × Int := if (qwayR l at_).2 = 0 then txq l at_.toNat else ([], (qwayR l at_).2)
set_option maxHeartbeats 8000000 in
theorem qtext_any9 {l : List Pt} {v : Value} (at_ : Int) {w : World} (hv : RowP w v l) (hs : l.length ≤ 100000) (ht : ∀ x ∈ l, x.t.length ≤ 50000) :
    Calls Try.prog 13 #[v, .int .i64 at_] w fun e w' => e = .returned (.tuple #[.string (bs (qtextR l at_).1), .int .i64 (qtextR l at_).2]) ∧ Below w.heap.size w w' := by
  have C1 : Hid (∀ W, RowP W v l → _) := Lib.hid (fun W h => qpath_any at_ (w := W) h hs)
  obtain ⟨ad2, cap2, rfl⟩ := RowG.len hv
  have HV := Lib.hid hv
  obtain ⟨way, er, hR⟩ : ∃ way er, qwayR l at_ = (way, er) := ⟨_, _, rfl⟩
  unfold qtextR
  rw [hR] at C1 ⊢
  dsimp only at C1 ⊢
  by_cases c : er = 0
  · subst c
    rw [if_pos rfl]
    have hWR : wayR l at_ = (way, 0) := by rw [qwayR_ok (by rw [hR])]; exact hR
    have hW := wayR_way (l := l) (at_ := at_) (by rw [hWR])
    rw [hWR] at hW
    have HWay := Lib.hid hW.2.2.2.1
    have HN5 := Lib.hid hW.2.2.2.2.2
    have HPOS := Lib.hid hW.2.2.2.1.pos
    have HTX : Hid (txq l at_.toNat = txq l (way.getD 0 0)) := by
      show _ = _
      have := hW.2.2.2.2.1
      dsimp only at this
      cases way with
      | nil => simp at this
      | cons a r => simp only [List.head?_cons, Option.some.injEq] at this; subst this; rfl
    clear hR hW hWR hv
    rw [HTX.out]
    obtain ⟨R, hR⟩ : ∃ R, R = txq l (way.getD 0 0) := ⟨_, rfl⟩
    rw [← hR]
    have HR := Lib.hid hR
    clear hR HTX
    go_enter Try.func13, Try.ntmps13
    go_wp2_with fail
    refine (C1.out _ HV.out).mono ?_
    rintro e w1 ⟨u, rfl, hO, B1⟩
    have L1 := Lib.hid B1
    have HO := Lib.hid hO
    obtain ⟨ao, n, co, hn, rfl⟩ : ∃ ao n co, n = way.length ∧ u = .slice ao n co := by
      obtain ⟨x1, x2, x3⟩ := RowG.len hO.row
      exact ⟨_, _, _, rfl, x3⟩
    have HN := Lib.hid hn
    have n5 : n ≤ 5 := by have := HN5.out; omega
    have w5 : IntKind.i64.wrap ((n : Int) - 1) = (n : Int) - 1 := IntWalk.i64_in _ (by omega)
    have Q0 : Hid (Tok l way n ([], 0)) := ⟨rfl, by decide, by omega, fun h => by omega, fun h => HPOS.out⟩
    have e0 : bs [] = ⟨#[]⟩ := rfl
    clear hn B1 C1 hO
    go_wp2
    go_loopw [8, 9] (fun s i wr => ∃ (q : Nat) (T : List UInt8 × Int), i = .int .i64 ((q : Int) - 1) ∧ s = .string (bs T.1) ∧ Hid (Below w1.heap.size w1 wr) ∧ Hid (Tok l way q T)) (fun _ i _ => (intOf i + 1).toNat)
    case atStart => exact ⟨n, ([], 0), rfl, by rw [e0], Below.refl _ _, Q0⟩
    case round =>
      obtain ⟨q, T, rfl, rfl, hB, hQ⟩ := hrel
      cases q with
      | zero =>
        have hRT : R = T := by rw [HR.out]; exact (hQ.out.2.2.2.1 HPOS.out).symm
        have hT0 : Hid (R.2 = 0) := by rw [hRT]; exact hQ.out.1
        subst hRT
        have ej : (((0 : Nat) : Int) - 1) = -1 := rfl
        rw [ej]
        have LB := Lib.hid (L1.out.trans (hB.out.mono L1.out.size))
        clear Q0 HO w5 hB
        go_wp2
        go_ret2
        exact ⟨by rw [hT0.out]; rfl, LB.out⟩
      | succ j =>
        have ej : (((j + 1 : Nat) : Int) - 1) = (j : Int) := by omega
        rw [ej]
        have hjn : j < way.length := by have := hQ.out.2.2.1; omega
        have hjn2 : j < n := by have := HN.out; omega
        have y0 : (0 : Int) ≤ (j : Int) := by omega
        have y1 : (j : Int) < (n : Int) := by omega
        obtain ⟨ad, cap, e9, hc⟩ := RowN.cells HO.out.row
        cases e9
        obtain ⟨b, o, rfl, hbl, hcw⟩ := hc j hjn
        obtain ⟨k, hk⟩ : ∃ k, k = way.getD j 0 := ⟨_, rfl⟩
        rw [← hk] at hcw
        have HK := Lib.hid hk
        have hkl : k < l.length := by rw [hk]; exact (HWay.out.lt j hjn).1
        obtain ⟨ad3, cap3, e1, hc2⟩ := RowP.cells HV.out
        cases e1
        obtain ⟨b2, o2, rfl, hbl2, hp0, hp1, hp2⟩ := hc2 k hkl
        have LB := Lib.hid (L1.out.trans (hB.out.mono L1.out.size))
        rw [← hB.out.cell (p := ⟨b, o + j, none⟩) hbl] at hcw
        rw [← LB.out.cell (p := ⟨b2, o2 + k * 3, none⟩) hbl2] at hp0
        rw [← LB.out.cell (p := ⟨b2, o2 + k * 3 + 1, none⟩) hbl2] at hp1
        rw [← LB.out.cell (p := ⟨b2, o2 + k * 3 + 2, none⟩) hbl2] at hp2
        have FA := Lib.hid (told_again HWay.out hQ.out HK.out HR.out)
        have htl := ht _ (getD_mem l zp k hkl)
        have hTX : txq l k = tlq (l.getD k zp) T.1 := by rw [HK.out]; exact HWay.out.text hjn hQ.out.1 hQ.out.2.2.2.1
        obtain ⟨x, hx⟩ : ∃ x, x = l.getD k zp := ⟨_, rfl⟩
        rw [← hx] at hp0 hp1 hp2 htl hTX
        have hTl := hQ.out.2.1
        obtain ⟨d, xb, t⟩ := x
        dsimp only at hp0 hp1 hp2 htl
        have hz := bs_size t
        have yk1 : (k : Int) < (l.length : Int) := by omega
        have yk0 : (0 : Int) ≤ (k : Int) := by omega
        have hB9 : Hid (∀ o', Below w1.heap.size w1 (wr.alloc o')) := fun o' => hB.out.alloc hB.out.size _
        cases d with
        | false =>
          have hT2 : tlq ⟨false, xb, t⟩ T.1 = if 4099 < t.length then ([], 19) else (t, 0) := rfl
          rw [hT2] at hTX
          by_cases h4 : 4099 < t.length
          · rw [if_pos h4] at hTX
            have HE : Hid (R = ([], 19)) := by show _ = _; rw [← hTX]; exact FA.out.2 (by rw [hTX]; decide)
            have t4 : (4099 : Int) < ((bs t).size : Int) := by omega
            generalize bs t = st at *
            have LBB : Hid (∀ o', Below w.heap.size w (wr.alloc o')) := fun o' => LB.out.alloc LB.out.size _
            clear hTX FA htl hz h4 hx hc hc2 hk Q0 HO hQ hT2 LB
            go_wp2
            go_ret2
            exact ⟨by rw [HE.out]; rfl, LBB.out _⟩
          · rw [if_neg h4] at hTX
            have HT := Lib.hid hTX
            have t4 : ((bs t).size : Int) ≤ 4099 := by omega
            have FB1 := Lib.hid (FA.out.1 (by rw [hTX]))
            have FB2 : Hid (bs (txq l k).1 = bs t) := by show _ = _; rw [hTX]
            generalize bs t = st at *
            clear hTX FA htl hz h4 hx hc hc2 hk Q0 HO hQ hT2 LB
            go_wp2
            go_roundw
            case rel => exact ⟨j, txq l k, by go_num, by rw [FB2.out], hB9.out _, FB1.out⟩
            case measure => simp [intOf]
        | true =>
          have hT2 : tlq ⟨true, xb, t⟩ T.1 = aRes T.1 t := rfl
          rw [hT2] at hTX
          have C9 : Hid (∀ W, Calls Try.prog 24 #[.string (bs T.1), .string (bs t)] W fun e w' => e = .returned (.tuple #[.string (bs (txq l k).1), .int .i64 (txq l k).2]) ∧ Below W.heap.size W w') := fun W => by
            rw [hTX]; exact qapply_any T.1 t W (by omega) htl
          obtain ⟨ek, hek⟩ : ∃ ek, ek = (txq l k).2 := ⟨_, rfl⟩
          rw [← hek] at C9
          have HEK := Lib.hid hek
          obtain ⟨sk, hsk⟩ : ∃ sk, sk = bs (txq l k).1 := ⟨_, rfl⟩
          rw [← hsk] at C9
          have HSK := Lib.hid hsk
          have LBB : Hid (∀ o' W, Below (wr.alloc o').heap.size (wr.alloc o') W → Below w.heap.size w W) := fun o' W h => (LB.out.alloc LB.out.size _).trans (h.mono (by have := LB.out.size; simp; omega))
          have HB8 : Hid (∀ o' W, Below (wr.alloc o').heap.size (wr.alloc o') W → Below w1.heap.size w1 W) := fun o' W h => (hB9.out _).trans (h.mono (by have := hB.out.size; simp; omega))
          generalize bs t = st at *
          generalize bs T.1 = sT at *
          clear hTX htl hz hx hc hc2 hk Q0 HO hQ hT2 LB hek hsk
          go_wp2_with fail
          refine (C9.out _).mono ?_
          rintro e w5 ⟨rfl, B5⟩
          have X1 := Lib.hid (LBB.out _ _ B5)
          have X2 := Lib.hid (HB8.out _ _ B5)
          clear B5 C9 LBB HB8 hB9
          by_cases ce : ek = 0
          · subst ce
            have FB1 := Lib.hid (FA.out.1 HEK.out.symm)
            clear FA
            go_wp2
            go_roundw
            case rel => exact ⟨j, txq l k, by go_num, by rw [HSK.out], X2.out, FB1.out⟩
            case measure => simp [intOf]
          · have hne : (txq l k).2 ≠ 0 := by rw [← HEK.out]; exact ce
            have HE : Hid (R = ([], ek)) := by show _ = _; rw [FA.out.2 hne, HEK.out, ← txq_err l k hne]
            clear FA hne
            go_wp2
            go_ret2
            exact ⟨by rw [HE.out]; rfl, X1.out⟩
  · rw [if_neg c]
    have e0 : bs [] = ⟨#[]⟩ := rfl
    dsimp only
    rw [e0]
    clear hR hv
    go_enter Try.func13, Try.ntmps13
    go_wp2_with fail
    refine (C1.out _ HV.out).mono ?_
    rintro e w1 ⟨u, rfl, hO, B1⟩
    have L1 := Lib.hid B1
    clear B1 hO C1 HV
    go_wp2
    go_ret2
    exact ⟨rfl, L1.out⟩
end Go.Proofs.Ytekeaoolodmdaaa
