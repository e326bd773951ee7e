import Derived.Test.YtekeaoolodmdaaaHM
/- The reference's texts of all parts; the texts of all parts are the document's. -/
namespace Go.Proofs.Ytekeaoolodmdaaa
set_option maxRecDepth 100000
open Go.RowKit
def qallT (l : List Pt) : List (List UInt8) × Int := if 200 < l.length then ([], 1) else allR (fun i => qtextR l (i : Int)) l.length
theorem allR_upto {f g : Nat → List UInt8 × Int} {n : Nat} (h : ∀ i, i < n → (∀ j, j < i → (f j).2 = 0) → f i = g i) : allR f n = allR g n := by
  induction n with
  | zero => rfl
  | succ n ih =>
    have e := ih fun i hi hj => h i (by omega) hj
    rw [allR, allR, ← e]
    by_cases c : (allR f n).2 = 0
    · rw [h n (by omega) (allR_ok c).2]
    · rw [if_neg c, if_neg c]
/- all texts are the document's -/
theorem qallT_eq (l : List Pt) : qallT l = allT l := by
  unfold qallT allT
  by_cases c : 200 < l.length
  · rw [if_pos c]
    have e : (textR l ((0 : Nat) : Int)) = ([], 1) := by
      unfold textR wayR
      rw [if_pos (Or.inl c)]
      rfl
    have := allR_first (f := fun i => textR l (i : Int)) (n := l.length) (i := 0) (by omega) rfl (by show (textR l ((0 : Nat) : Int)).2 ≠ 0; rw [e]; decide)
    rw [this]
    show _ = ([], (textR l ((0 : Nat) : Int)).2)
    rw [e]
  · rw [if_neg c]
    symm
    refine allR_upto fun i hi hj => ?_
    have hfm : ∀ j, j < i → fm (l.getD j zp) j = true := fun j hji => by
      have h0 := hj j hji
      unfold textR at h0
      by_cases cw : (wayR l (j : Int)).2 = 0
      · have hw := wayR_way cw
        have h1 := hw.2.2.2.1.lt 0 hw.2.2.2.1.pos
        have h2 := hw.2.2.2.2.1
        cases hp : (wayR l (j : Int)).1 with
        | nil => rw [hp] at h2; simp at h2
        | cons a r =>
          rw [hp] at h1 h2
          simp only [List.head?_cons, Option.some.injEq, Int.toNat_natCast] at h2
          subst h2
          exact h1.2
      · rw [if_neg cw] at h0; exact absurd h0 cw
    have e : wayR l (i : Int) = qwayR l (i : Int) := by
      unfold wayR qwayR
      rw [Int.toNat_natCast, ql_al 4 i hfm]
    show textR l (i : Int) = qtextR l (i : Int)
    unfold textR qtextR
    rw [e]
set_option maxHeartbeats 2000000 in
theorem qall_any9 {l : List Pt} {v : Value} {w : World} (hv : RowP w v l) (hs : l.length ≤ 10000) (ht : ∀ x ∈ l, x.t.length ≤ 50000) :
    Calls Try.prog 14 #[v] w fun e w' => ∃ u, e = .returned (.tuple #[u, .int .i64 (allT l).2]) ∧ OwnS w' w.heap.size u (allT l).1 ∧ Below w.heap.size w w' := by
  rw [← qallT_eq]
  obtain ⟨f, hf⟩ : ∃ f : Nat → List UInt8 × Int, f = fun (i : Nat) => qtextR l (i : Int) := ⟨_, rfl⟩
  have C2 : Hid (∀ W (k : Nat), RowP W v l → Calls Try.prog 13 #[v, .int .i64 (k : Int)] W fun e w' => e = .returned (.tuple #[.string (bs (f k).1), .int .i64 (f k).2]) ∧ Below W.heap.size W w') := fun W k h => by
    rw [hf]
    exact qtext_any9 k h (by omega) ht
  obtain ⟨n, hn⟩ : ∃ n, n = l.length := ⟨_, rfl⟩
  obtain ⟨R, hR⟩ : ∃ R, R = qallT l := ⟨_, rfl⟩
  rw [← hR]
  have HV := Lib.hid hv
  obtain ⟨ad, cap, hvs⟩ := RowG.len hv
  rw [← hn] at hvs
  subst hvs
  have n4 : n ≤ 10000 := by omega
  by_cases c : 200 < n
  · have HR : Hid (R = ([], 1)) := by show _ = _; rw [hR]; unfold qallT; rw [if_pos (by omega)]
    have t1 : (200 : Int) < (n : Int) := by omega
    clear hf hn hR hv ht hs
    go_enter Try.func14, Try.ntmps14
    go_wp2
    go_ret2
    exact ⟨.slice none 0 0, by rw [HR.out]; rfl, by rw [HR.out]; exact OwnG.nil _ _ _ _ _ _, Below.refl _ _⟩
  · have HR : Hid (R = allR f n) := by show _ = _; rw [hR, hf]; unfold qallT; rw [if_neg (by omega), hn]
    have t1 : (n : Int) ≤ 200 := by omega
    clear hf hn hR hv ht hs
    go_enter Try.func14, Try.ntmps14
    go_wp2
    go_loopw [4, 5] (fun a i wr => ∃ (k : Nat) (u : Value), u = a ∧ k ≤ n ∧ i = .int .i64 (k : Int) ∧ Hid ((allR f k).2 = 0) ∧ Hid (OwnS wr w.heap.size u (allR f k).1) ∧ Hid (Below w.heap.size w wr)) (fun _ i _ => n - (intOf i).toNat)
    case atStart => exact ⟨0, _, rfl, Nat.zero_le _, rfl, rfl, OwnG.nil _ _ _ _ _ _, Below.refl _ _⟩
    case round =>
      obtain ⟨k, u, rfl, hk, rfl, hE, hO, hB⟩ := hrel
      by_cases hlt : k < n
      · have yk : (k : Int) < (n : Int) := by omega
        have w5 : IntKind.i64.wrap ((k : Int) + 1) = (k : Int) + 1 := IntWalk.i64_in _ (by omega)
        have C3 := Lib.hid (fun W h => C2.out W k h)
        obtain ⟨x, er, hx⟩ : ∃ x er, f k = (x, er) := ⟨_, _, rfl⟩
        rw [hx] at C3
        dsimp only at C3
        have hlen := allR_len (f := f) (n := k)
        have RV := Lib.hid (HV.out.below hB.out)
        by_cases ce : er = 0
        · subst ce
          have HX : Hid (allR f (k + 1) = ((allR f k).1 ++ [x], 0)) := by show _ = _; rw [allR, if_pos hE.out, if_pos (by rw [hx]), hx]
          obtain ⟨L, hL⟩ : ∃ L, L = (allR f k).1 := ⟨_, rfl⟩
          rw [← hL] at hO HX hlen
          obtain ⟨sx, hsx⟩ : ∃ sx, sx = bs x := ⟨_, rfl⟩
          have AP : Hid (∀ W, OwnS W w.heap.size u L → w.heap.size ≤ W.heap.size → _) := Lib.hid (fun W h1 h2 => app_s (B := w.heap.size) (w := W) x h1 h2 (by omega))
          rw [← hsx] at C3 AP
          obtain ⟨ln, hln⟩ : ∃ ln, ln = L.length := ⟨_, rfl⟩
          rw [← hln] at AP
          clear hsx hx C2 HR hlen hL hln HV
          go_wp2_with fail
          refine (C3.out _ RV.out).mono ?_
          rintro e w2 ⟨rfl, B2⟩
          have L2 := Lib.hid (hB.out.trans (B2.mono hB.out.size))
          have O2 := Lib.hid (hO.out.all B2)
          obtain ⟨g, gc, w3, hr, O3, B3⟩ := AP.out w2 O2.out L2.out.size
          have HO3 : Hid (OwnS w3 w.heap.size (.slice (some ⟨g, 0, none⟩) (ln + 1) gc) (L ++ [x])) := O3
          have L3 := Lib.hid (L2.out.trans B3)
          obtain ⟨au, nu, cu, hus⟩ : ∃ au nu cu, u = .slice au nu cu := by
            obtain ⟨x1, x2, x3⟩ := RowG.len O2.out.row
            exact ⟨_, _, _, x3⟩
          subst hus
          clear B2 O2 O3 B3 AP C3 hO hB RV
          go_wp2_with (at_builtin; refine wpList_append_run rfl (.tmp 26) (.tmp 28) 35 35 rfl _ _ _ _ rfl rfl hr ?_)
          clear hr
          go_wp2
          go_roundw
          case rel => exact ⟨k + 1, _, rfl, by omega, by go_num, by rw [HX.out]; rfl, by rw [HX.out]; exact HO3.out, L3.out⟩
          case measure => simp [intOf]; omega
        · have HX : Hid (R = ([], er)) := by show _ = _; rw [HR.out, allR_first hlt hE.out (by rw [hx]; exact ce), hx]
          clear hx C2 HR hlen
          go_wp2_with fail
          refine (C3.out _ RV.out).mono ?_
          rintro e w2 ⟨rfl, B2⟩
          have L2 := Lib.hid (hB.out.trans (B2.mono hB.out.size))
          clear B2 hO C3 hB
          go_wp2
          go_ret2
          exact ⟨.slice none 0 0, by rw [HX.out]; rfl, by rw [HX.out]; exact OwnG.nil _ _ _ _ _ _, L2.out⟩
      · have e : k = n := by omega
        subst e
        have HRE : Hid (R.2 = 0 ∧ R.1 = (allR f k).1) := by rw [HR.out]; exact ⟨hE.out, rfl⟩
        clear C2 HV
        go_wp2
        go_ret2
        exact ⟨u, by rw [HRE.out.1]; rfl, by rw [HRE.out.2]; exact hO.out, hB.out⟩
set_option maxHeartbeats 2000000 in
theorem chainall_any {l : List Pt} {v : Value} {w : World} (hv : RowP w v l) (ht : ∀ x ∈ l, x.t.length ≤ 140737488355328) (hs : l.length ≤ 9223372036854775807) :
    Calls Try.prog 4 #[v] w fun e w' => e = .returned (.bool true) ∧ Below w.heap.size w w' := by
  have CA : Hid (∀ W, _) := Lib.hid (fun W => alive9_any W)
  have CG : Hid (∀ W, RowP W v l → _) := Lib.hid (fun W h => great9_any (w := W) h ht hs)
  have HV := Lib.hid hv
  by_cases hg : greatP l = true
  · rw [hg] at CG
    clear hg ht hs hv
    go_enter Try.func4, Try.ntmps4
    go_wp2_with fail
    refine (CA.out _).mono ?_
    rintro e w1 ⟨rfl, B1⟩
    have L1 := Lib.hid B1
    have R1 := Lib.hid (HV.out.below B1)
    clear B1
    go_wp2_with fail
    refine (CG.out _ R1.out).mono ?_
    rintro e w2 ⟨rfl, B2⟩
    have L2 := Lib.hid (L1.out.trans (B2.mono L1.out.size))
    clear B2
    go_wp2_with fail
    refine (CA.out _).mono ?_
    rintro e w3 ⟨rfl, B3⟩
    have L3 := Lib.hid (L2.out.trans (B3.mono L2.out.size))
    clear B3
    go_wp2
    go_ret
    exact ⟨rfl, L3.out⟩
  · have hg' : greatP l = false := by simpa using hg
    rw [hg'] at CG
    obtain ⟨hl, htx⟩ := greatP_no hg'
    have CB : Hid (∀ W, RowP W v l → _) := Lib.hid (fun W h => all_any9 (w := W) h (by omega) (fun x hx => by have := htx x hx; omega))
    have CQ : Hid (∀ W, RowP W v l → _) := Lib.hid (fun W h => qall_any9 (w := W) h (by omega) (fun x hx => by have := htx x hx; omega))
    have hlen : (allT l).1.length ≤ 210 := by have := allR_len (f := fun i => textR l (i : Int)) (n := l.length); unfold allT; omega
    have CS : Hid (∀ W u1 u2, RowS W u1 (allT l).1 → RowS W u2 (allT l).1 → _) := Lib.hid (fun W u1 u2 h1 h2 => sametexts9_any (w := W) h1 h2 (by omega))
    generalize (allT l).1 = L at *
    generalize (allT l).2 = er at *
    clear hg' hl htx hlen ht hs hv hg
    go_enter Try.func4, Try.ntmps4
    go_wp2_with fail
    refine (CA.out _).mono ?_
    rintro e w1 ⟨rfl, B1⟩
    have L1 := Lib.hid B1
    have R1 := Lib.hid (HV.out.below B1)
    clear B1 HV
    go_wp2_with fail
    refine (CG.out _ R1.out).mono ?_
    rintro e w2 ⟨rfl, B2⟩
    have L2 := Lib.hid (L1.out.trans (B2.mono L1.out.size))
    have R2 := Lib.hid (R1.out.below B2)
    clear B2 CG R1
    go_wp2_with fail
    refine (CB.out _ R2.out).mono ?_
    rintro e w3 ⟨u, rfl, O3, B3⟩
    have L3 := Lib.hid (L2.out.trans (B3.mono L2.out.size))
    have R3 := Lib.hid (R2.out.below B3)
    have S3 : Hid (RowS w3 u L) := O3.row
    clear B3 O3 CB R2
    go_wp2_with fail
    refine (CQ.out _ R3.out).mono ?_
    rintro e w4 ⟨u2, rfl, O4, B4⟩
    have L4 := Lib.hid (L3.out.trans (B4.mono L3.out.size))
    have S4 : Hid (RowS w4 u L) := S3.out.below B4
    have T4 : Hid (RowS w4 u2 L) := O4.row
    clear B4 O4 CQ R3 S3
    go_wp2_with fail
    refine (CA.out _).mono ?_
    rintro e w5 ⟨rfl, B5⟩
    have L5 := Lib.hid (L4.out.trans (B5.mono L4.out.size))
    have S5 : Hid (RowS w5 u L) := S4.out.below B5
    have T5 : Hid (RowS w5 u2 L) := T4.out.below B5
    clear B5 CA S4 T4
    go_wp2_with fail
    refine (CS.out _ _ _ S5.out T5.out).mono ?_
    rintro e w6 ⟨rfl, B6⟩
    have L6 := Lib.hid (L5.out.trans (B6.mono L5.out.size))
    clear B6 CS
    go_wp2
    go_ret
    exact ⟨rfl, L6.out⟩
end Go.Proofs.Ytekeaoolodmdaaa
