import Derived.Test.YtnmjcpoobabjgaaGreatDoorGI
import Derived.Test.YtnmjcpoobabjgaaGreatDoorCPbm
import Derived.Test.YtnmjcpoobabjgaaGreatDoorO13m
set_option linter.unusedVariables false
set_option linter.unusedSimpArgs false
/- Sealed texts as lists of bytes; a pack's bytes are written. -/
namespace Go.Proofs.YtnmjcpoobabjgaaGreatDoor
set_option maxRecDepth 100000
open Go.RowKit Classical
/- the laid half bytes' table stands -/
def TieC (w : World) : Prop := ∀ i, i < 16 → w.cell? ⟨2, i, none⟩ = some (Cr.wv Cr.hb i)
theorem TieC.below {w w' : World} (h : TieC w) (hb : Below w.heap.size w w') : TieC w' := fun i hi => by
  rw [hb.cell (block_lt_of_cell (h i hi))]; exact h i hi
def sumL (s : List UInt8) : List UInt8 := Cr.strL 4 (Cr.sb (Cr.sumF (Cr.sAt (bs s)) (bs s).size))
def sealL (s : List UInt8) : List UInt8 := s ++ sumL s
theorem sumL_len (s : List UInt8) : (sumL s).length = 4 := Cr.strL_length _ _
theorem sealL_len (s : List UInt8) : (sealL s).length = s.length + 4 := by rw [sealL, List.length_append, sumL_len]
theorem sealS_bs (s : List UInt8) : Cr.sealS (bs s) = bs (sealL s) := by
  unfold Cr.sealS sealL
  rw [← bs_append]
  rfl
theorem seal_l (s : List UInt8) (w : World) (hs : s.length ≤ 1073741824) (hk : TieC w) : Calls Tryz.prog 29 #[.string (bs s)] w fun e w' => e = .returned (.string (bs (sealL s))) ∧ Below w.heap.size w w' := by
  have := Cr.seal_any (bs s) w (by rw [bs_size]; exact hs) hk
  rw [sealS_bs] at this
  exact this
noncomputable def okL (d : List UInt8) : Bool := decide (4 ≤ d.length ∧ sealL (d.take (d.length - 4)) = d)
noncomputable def unL (d : List UInt8) : List UInt8 := if okL d = true then d.take (d.length - 4) else []
theorem ext0 (d : List UInt8) : (bs d).extract 0 ((bs d).size - 4) = bs (d.take (d.length - 4)) := by
  rw [bs_extract, bs_size, List.drop_zero, Nat.sub_zero]
theorem okS_bs (d : List UInt8) : Cr.okS (bs d) = okL d := by
  unfold Cr.okS okL
  rw [ext0, sealS_bs, bs_size, Bool.eq_iff_iff]
  simp only [Bool.and_eq_true, decide_eq_true_eq]
  exact ⟨fun h => ⟨h.1, bs_inj h.2⟩, fun h => ⟨h.1, congrArg bs h.2⟩⟩
theorem unS_bs (d : List UInt8) : Cr.unS (bs d) = bs (unL d) := by
  unfold Cr.unS unL
  rw [okS_bs, ext0]
  split <;> rfl
theorem unseal_l (d : List UInt8) (w : World) (hs : d.length ≤ 1073741824) (hk : TieC w) : Calls Tryz.prog 36 #[.string (bs d)] w fun e w' => e = .returned (.tuple #[.string (bs (unL d)), .bool (okL d)]) ∧ Below w.heap.size w w' := by
  have := Cr.unseal_any (bs d) w (by rw [bs_size]; exact hs) hk
  rw [unS_bs, okS_bs] at this
  exact this
theorem take_seal (s : List UInt8) : (sealL s).take ((sealL s).length - 4) = s := by
  rw [sealL_len, Nat.add_sub_cancel, sealL, List.take_left']
  rfl
theorem okL_seal (s : List UInt8) : okL (sealL s) = true := by
  unfold okL
  rw [take_seal, decide_eq_true_eq]
  exact ⟨by rw [sealL_len]; omega, rfl⟩
theorem unL_seal (s : List UInt8) : unL (sealL s) = s := by
  unfold unL
  rw [if_pos (okL_seal s), take_seal]
theorem okL_there {d : List UInt8} (h : okL d = true) : d = sealL (unL d) := by
  unfold unL
  rw [if_pos h]
  unfold okL at h
  rw [decide_eq_true_eq] at h
  exact h.2.symm
/- what is right of a pack's parts -/
theorem right_fm {l : List Pt} (h : (allT l).2 = 0) : l.length ≤ 200 ∧ ∀ k, k < l.length → fm (l.getD k zp) (k : Int) = true := by
  refine ⟨(allT_len h).1, fun k hk => ?_⟩
  have h1 := (allR_ok h).2 k hk
  have h2 : (wayR l (k : Int)).2 = 0 := by
    unfold textR at h1
    by_cases c : (wayR l (k : Int)).2 = 0
    · exact c
    · rw [if_neg c] at h1; exact absurd h1 c
  obtain ⟨-, -, -, hw, hh, -⟩ := wayR_way h2
  have h3 := (hw.lt 0 hw.pos).2
  have e : (wayR l (k : Int)).1.getD 0 0 = k := by
    cases hc : (wayR l (k : Int)).1 with
    | nil => rw [hc] at hh; simp at hh
    | cons a r => rw [hc] at hh; simp at hh; simp [hh]
  rw [e] at h3
  exact h3
theorem okPs_of {l : List Pt} : ∀ i, (∀ k, k < l.length → okP (l.getD k zp) (i + k)) → okPs l i := by
  induction l with
  | nil => intro i _; exact trivial
  | cons x r ih =>
    intro i h
    refine ⟨h 0 (by simp), ih (i + 1) fun k hk => ?_⟩
    have := h (k + 1) (by simp; omega)
    rw [List.getD_cons_succ, show i + (k + 1) = i + 1 + k by omega] at this
    exact this
theorem right_ok {l : List Pt} (h : (allT l).2 = 0) (ht : ∀ x ∈ l, x.t.length ≤ 65536) : okPs l 0 := by
  obtain ⟨h1, h2⟩ := right_fm h
  refine okPs_of 0 fun k hk => ?_
  have hm := h2 k hk
  have hx := getD_mem l zp k hk
  rw [Nat.zero_add]
  refine ⟨fun hd => ?_, fun hd => fm_plain hm hd, ht _ hx⟩
  have := fm_delta hm hd
  unfold ahd
  rw [hd]
  simp only [if_true]
  omega
theorem pack_right {l : List Pt} {os : List (Int × List UInt8)} (h : packR l = some os) : (allT l).2 = 0 ∧ pk (allT l).1 [] = some os := by
  unfold packR at h
  by_cases c : (allT l).2 = 0
  · rw [if_pos c] at h; exact ⟨c, h⟩
  · rw [if_neg c] at h; cases h
theorem pbt_len (x : Pt) (i : Nat) : (pbt x i).length ≤ x.t.length + 12 := by
  unfold pbt
  rw [List.length_append, tx_len]
  have := dg_le6 (clamp_le (ahd x i))
  have := dg_le6 (clamp_le (x.t.length : Int))
  omega
theorem pbs_len {M : Nat} : ∀ (l : List Pt) (i : Nat), (∀ x ∈ l, x.t.length ≤ M) → (pbs l i).length ≤ l.length * (M + 12)
  | [], _, _ => by simp [pbs]
  | x :: r, i, h => by
    have h1 := pbs_len r (i + 1) (fun y hy => h y (List.mem_cons_of_mem _ hy))
    have h2 := pbt_len x i
    have h3 := h x List.mem_cons_self
    rw [pbs, List.length_append, List.length_cons, Nat.succ_mul]
    omega
theorem body_len {l : List Pt} (hn : l.length ≤ 200) (ht : ∀ x ∈ l, x.t.length ≤ 65536) : (bodyB l).length ≤ 13200000 := by
  have h1 := pbs_len l 0 ht
  have h2 := dg_le6 (clamp_le (l.length : Int))
  have h3 : l.length * (65536 + 12) ≤ 200 * (65536 + 12) := Nat.mul_le_mul_right _ hn
  unfold bodyB
  simp only [List.length_append, mark, List.length_cons, List.length_nil]
  omega
/- what Write answers -/
noncomputable def wrv (l : List Pt) : Value := match packR l with | some _ => .tuple #[.string (bs (sealL (bodyB l))), .int .i64 0] | none => .tuple #[.string ⟨#[]⟩, .int .i64 1]
set_option maxHeartbeats 4000000 in
theorem pwrite_any {l : List Pt} {v : Value} {w : World} (hv : RowP w v l) (hT : Tie w) (hC : TieC w) (hs : l.length ≤ 10000) (ht : ∀ x ∈ l, x.t.length ≤ 65536) :
    Calls Tryz.prog 9 #[v] w fun e w' => e = .returned (wrv l) ∧ Below w.heap.size w w' := by
  have CP := Lib.hid (fun (_ : Unit) => packof_any hv hT hs (fun x hx => by have := ht x hx; omega))
  obtain ⟨ad, cap, rfl, hc⟩ := RowP.cells hv
  cases hR : packR l with
  | none =>
    have e : wrv l = .tuple #[.string ⟨#[]⟩, .int .i64 1] := by unfold wrv; rw [hR]
    rw [e]
    rw [hR] at CP
    clear e hv hT hC hs ht hc hR
    go_enter Tryz.func9, Tryz.ntmps9
    go_wp2_with fail
    refine (CP.out ()).mono ?_
    rintro e w1 ⟨B1, ⟨os, h, -⟩ | ⟨-, rfl⟩⟩
    · cases h
    · clear CP
      go_wp2
      go_ret2
      exact ⟨rfl, B1⟩
  | some os =>
    have e : wrv l = .tuple #[.string (bs (sealL (bodyB l))), .int .i64 0] := by unfold wrv; rw [hR]
    rw [e]
    obtain ⟨ha, -⟩ := pack_right hR
    obtain ⟨n200, hfm⟩ := right_fm ha
    rw [hR] at CP
    have HBL := body_len n200 ht
    obtain ⟨n, hn⟩ : ∃ n, n = l.length := ⟨_, rfl⟩
    have HPL : Hid (∀ k, k ≤ n → (mark ++ (dg (clamp (n : Int)) ++ pbs (l.take k) 0)).length ≤ 13200000) := fun k hk => by
      have h1 := pbs_len (M := 65536) (l.take k) 0 (fun x hx => ht x (List.mem_of_mem_take hx))
      have h2 := dg_le6 (clamp_le (n : Int))
      have h3 : (l.take k).length * (65536 + 12) ≤ 200 * (65536 + 12) := Nat.mul_le_mul_right _ (by rw [List.length_take]; omega)
      simp only [List.length_append, mark, List.length_cons, List.length_nil]
      omega
    have HC : Hid (∀ k, k < n → ∃ b o, ad = some ⟨b, o, none⟩ ∧ b < w.heap.size ∧ w.cell? ⟨b, o + k * 3, none⟩ = some (.bool (l.getD k zp).d) ∧ w.cell? ⟨b, o + k * 3 + 1, none⟩ = some (.int .i64 (l.getD k zp).b) ∧ w.cell? ⟨b, o + k * 3 + 2, none⟩ = some (.string (bs (l.getD k zp).t))) := by rw [hn]; exact hc
    have CA : Hid (∀ k, k < n → ∀ W, Calls Tryz.prog 27 #[.agg #[.bool (l.getD k zp).d, .int .i64 (l.getD k zp).b, .string (bs (l.getD k zp).t)], .int .i64 (k : Int)] W fun e w' => e = .returned (.int .i64 (ahd (l.getD k zp) k)) ∧ Below W.heap.size W w') := fun k hk W => by
      refine ahead_any (l.getD k zp) k W (by omega) fun hd => ?_
      have := fm_delta (hfm k (by omega)) hd
      omega
    have HT6 : Hid (∀ k, k < n → (l.getD k zp).t.length ≤ 65536) := fun k hk => ht _ (getD_mem l zp k (by omega))
    have HPT : Hid (∀ k, k < n → (mark ++ (dg (clamp (n : Int)) ++ pbs (l.take k) 0)) ++ (dg (clamp (ahd (l.getD k zp) k)) ++ tx (l.getD k zp).t) = mark ++ (dg (clamp (n : Int)) ++ pbs (l.take (k + 1)) 0)) := fun k hk => by
      rw [pbs_take (by omega)]
      simp only [pbt, List.append_assoc]
    have HBD : Hid (mark ++ (dg (clamp (n : Int)) ++ pbs (l.take n) 0) = bodyB l) := by
      show _ = _
      rw [hn, List.take_length]; rfl
    have n200' : n ≤ 200 := by omega
    have CS : Hid (∀ W, TieC W → Calls Tryz.prog 29 #[.string (bs (bodyB l))] W fun e w' => e = .returned (.string (bs (sealL (bodyB l)))) ∧ Below W.heap.size W w') := fun W hW => seal_l _ W (by omega) hW
    have TC := Lib.hid hC
    obtain ⟨RV, hRV⟩ : ∃ RV, RV = bs (sealL (bodyB l)) := ⟨_, rfl⟩
    rw [← hRV] at CS ⊢
    obtain ⟨BB, hBB⟩ : ∃ BB, BB = bodyB l := ⟨_, rfl⟩
    rw [← hBB] at CS HBD
    rw [← hn] at CP ⊢
    clear e hv hT hC hs ht hc hR ha n200 hfm HBL hn hRV hBB
    go_enter Tryz.func9, Tryz.ntmps9
    go_wp2_with fail
    refine (CP.out ()).mono ?_
    rintro e w1 ⟨B1, ⟨os', -, w0, vo, vd, -, rfl, -⟩ | ⟨h, -⟩⟩
    · have L1 := Lib.hid B1
      obtain ⟨g0, hg0⟩ : ∃ g0, g0 = w0.heap.size + 1 := ⟨_, rfl⟩
      rw [← hg0]
      clear hg0 B1 CP
      have N0 : Wr (fun k => k < w.heap.size) (w1.alloc (.cells #[.slice none 0 0] 65)) w1.heap.size [] := Wr.new (K := fun k => k < w.heap.size) (w := w1) (fun k h => Nat.lt_of_lt_of_le h L1.out.size)
      have K0 : Hid (Keep (fun k => k < w.heap.size) w (w1.alloc (.cells #[.slice none 0 0] 65))) := (Keep.of_below L1.out (fun k hk _ => hk)).alloc _
      have z0 : (w1.alloc (.cells #[.slice none 0 0] 65)).heap.size = w1.heap.size + 1 := by simp
      have R0 : Hid (Calls Tryz.prog 25 #[.pointer (some ⟨w1.heap.size, 0, none⟩), .slice (some ⟨w1.heap.size + 1, 0, none⟩) 1 1] ((w1.alloc (.cells #[.slice none 0 0] 65)).alloc (.cells #[.string ⟨#[83, 80, 75, 49]⟩] 9)) fun e w' => e = .returned (.tuple #[]) ∧ Wr (fun k => k < w.heap.size) w' w1.heap.size mark ∧ Keep (fun k => k < w.heap.size) (w1.alloc (.cells #[.slice none 0 0] 65)) w') := by
        show Calls _ _ _ _ _
        have := raw_call N0 mark (w1.heap.size + 1) z0.symm (by simp [mark])
        exact this
      clear N0 z0
      go_wp2_with fail
      refine R0.out.mono ?_
      rintro e w2 ⟨rfl, W2, K2⟩
      have HW2 := Lib.hid W2
      have HK2 := Lib.hid (K0.out.trans K2)
      clear W2 K2 R0 K0
      have R1 := Lib.hid (num_call HW2.out (n : Int) w2.heap.size rfl (by simp [mark]))
      go_wp2_with fail
      refine R1.out.mono ?_
      rintro e w3 ⟨rfl, W3, K3⟩
      have HW3 : Hid (Wr (fun k => k < w.heap.size) w3 w1.heap.size (mark ++ (dg (clamp (n : Int)) ++ pbs (l.take 0) 0))) := by
        rw [List.take_zero, show pbs [] 0 = [] from rfl, List.append_nil]
        exact W3
      have HK3 := Lib.hid (HK2.out.trans K3)
      clear W3 K3 R1 HW2 HK2
      go_wp2
      go_loopw [24] (fun i wr => ∃ k : Nat, k ≤ n ∧ i = .int .i64 (k : Int) ∧ Hid (Wr (fun k => k < w.heap.size) wr w1.heap.size (mark ++ (dg (clamp (n : Int)) ++ pbs (l.take k) 0))) ∧ Hid (Keep (fun k => k < w.heap.size) w wr)) (fun i _ => n - (intOf i).toNat)
      case atStart => exact ⟨0, Nat.zero_le _, rfl, HW3, HK3⟩
      case round =>
        obtain ⟨k, hk, rfl, hW, hK⟩ := hrel
        clear HW3 HK3
        by_cases hlt : k < n
        · have yk : (k : Int) < (n : Int) := by omega
          have y0 : (0 : Int) ≤ (k : Int) := by omega
          have w5 : IntKind.i64.wrap ((k : Int) + 1) = (k : Int) + 1 := IntWalk.i64_in _ (by omega)
          obtain ⟨b, o, rfl, hbl, h0, h1, h2⟩ := HC.out k hlt
          have c0 : wr.cell? ⟨b, o + k * 3, none⟩ = some (.bool (l.getD k zp).d) := hK.out.cell hbl h0
          have c1 : wr.cell? ⟨b, o + k * 3 + 1, none⟩ = some (.int .i64 (l.getD k zp).b) := hK.out.cell hbl h1
          have c2 : wr.cell? ⟨b, o + k * 3 + 2, none⟩ = some (.string (bs (l.getD k zp).t)) := hK.out.cell hbl h2
          have C2 := Lib.hid (CA.out k hlt)
          have PLk := Lib.hid (HPL.out k (by omega))
          have PTk := Lib.hid (HPT.out k hlt)
          have T6 := Lib.hid (HT6.out k hlt)
          obtain ⟨BP, hBP⟩ : ∃ BP, BP = mark ++ (dg (clamp (n : Int)) ++ pbs (l.take k) 0) := ⟨_, rfl⟩
          rw [← hBP] at hW PLk PTk
          generalize ahd (l.getD k zp) k = ak at C2 PTk
          generalize (l.getD k zp).d = xd at *
          generalize (l.getD k zp).b = xb at *
          obtain ⟨xt, hxt⟩ : ∃ xt, xt = (l.getD k zp).t := ⟨_, rfl⟩
          rw [← hxt] at c2 C2 PTk T6
          have HX : Hid (∀ (W : World) (h : Nat) (L : List UInt8) (K : Nat → Prop), Wr K W h L → L.length ≤ 13200010 → Calls Tryz.prog 28 #[.pointer (some ⟨h, 0, none⟩), .slice (some ⟨W.heap.size, 0, none⟩) 1 1] (W.alloc (.cells #[.string (bs xt)] 9)) fun e w' => e = .returned (.tuple #[]) ∧ Wr K w' h (L ++ tx xt) ∧ Keep K W w') := fun W h L K hw hl => text_call hw xt W.heap.size rfl (by have := T6.out; omega)
          generalize bs xt = sb at *
          clear h0 h1 h2 hBP hxt
          -- the world behind the part's alloc
          have N1 := hW.out.add (.cells #[.bool xd, .int .i64 xb, .string sb] 60)
          have KA : Hid (Keep (fun k => k < w.heap.size) w (wr.alloc (.cells #[.bool xd, .int .i64 xb, .string sb] 60))) := hK.out.alloc _
          have PA : Hid ((wr.alloc (.cells #[.bool xd, .int .i64 xb, .string sb] 60)).heap[wr.heap.size]? = some (.cells #[.bool xd, .int .i64 xb, .string sb] 60 (0, 0))) := heap_alloc_new _ _
          have HN1 := Lib.hid N1
          have HWR : Hid (w.heap.size ≤ wr.heap.size) := hK.out.size
          clear N1 hW hK
          go_wp2_with fail
          refine (C2.out _).mono ?_
          rintro e w4 ⟨rfl, B4⟩
          have HN4 := Lib.hid (HN1.out.all B4)
          have P4 : Hid (w4.heap[wr.heap.size]? = some (.cells #[.bool xd, .int .i64 xb, .string sb] 60 (0, 0))) := by show _ = _; rw [B4.block _ (by simp)]; exact PA.out
          have K4 : Hid (Keep (fun k => k < w.heap.size) w w4) := KA.out.trans (Keep.all B4)
          clear B4 HN1 PA KA c0 c1 c2 C2
          have R5 := Lib.hid (num_call HN4.out ak w4.heap.size rfl (by have := PLk.out; omega))
          go_wp2_with fail
          refine R5.out.mono ?_
          rintro e w6 ⟨rfl, W6, K6⟩
          have HN6 := Lib.hid W6
          have P6 : Hid (w6.heap[wr.heap.size]? = some (.cells #[.bool xd, .int .i64 xb, .string sb] 60 (0, 0))) := K6.at (Or.inr rfl) P4.out
          have K6' : Hid (Keep (fun k => k < w.heap.size) w w6) := K4.out.trans (K6.mono (fun k hk _ => Or.inl hk))
          clear W6 K6 R5 HN4 P4 K4
          have q2 := cell_of_row _ _ 2 _ _ _ P6.out
          have R7 := Lib.hid (HX.out _ _ _ _ HN6.out (by have := PLk.out; have := dg_le6 (clamp_le ak); rw [List.length_append]; omega))
          clear HX
          go_wp2_with fail
          refine R7.out.mono ?_
          rintro e w8 ⟨rfl, W8, K8⟩
          have HN8 : Hid (Wr (fun k => k < w.heap.size) w8 w1.heap.size (mark ++ (dg (clamp (n : Int)) ++ pbs (l.take (k + 1)) 0))) := by
            have := W8.mono (K' := fun k => k < w.heap.size) (fun k hk => Or.inl hk)
            rw [List.append_assoc, PTk.out] at this
            exact this
          have K8' : Hid (Keep (fun k => k < w.heap.size) w w8) := K6'.out.trans (K8.mono (fun k hk _ => Or.inl hk))
          clear W8 K8 R7 HN6 P6 K6' q2 PTk PLk
          go_wp2
          go_roundw
          case rel => exact ⟨k + 1, by omega, by go_num, HN8, K8'⟩
          case measure => simp [intOf]; omega
        · have e : k = n := by omega
          subst e
          rw [HBD.out] at hW
          have D := Lib.hid (wstr_any hW.out)
          have LL := Lib.hid (hK.out.below (Nat.le_refl _))
          have TW := Lib.hid (TC.out.below LL.out)
          have CSW := Lib.hid (CS.out wr TW.out)
          clear hW hK HC CA HPL HPT HT6 HBD CS TC
          generalize bs BB = bb at *
          go_wp2_with fail
          refine D.out.mono ?_
          rintro e w3' ⟨rfl, rfl⟩
          go_wp2_with fail
          refine CSW.out.mono ?_
          rintro e w4 ⟨rfl, B4⟩
          have L4 := Lib.hid (LL.out.trans (B4.mono LL.out.size))
          clear B4 CSW D
          go_wp2
          go_ret2
          exact ⟨rfl, L4.out⟩
    · cases h
end Go.Proofs.YtnmjcpoobabjgaaGreatDoor
/- A pack is opened. -/
namespace Go.Proofs.YtnmjcpoobabjgaaGreatDoor
set_option maxRecDepth 100000
open Go.RowKit Classical
noncomputable def opR (d : List UInt8) : Option (List Pt × List Nat × List (Int × List UInt8)) :=
  if okL d = true ∧ (prd (unL d)).2.2 = true then (packR (prd (unL d)).1).map (fun os => ((prd (unL d)).1, (prd (unL d)).2.1, os)) else none
theorem opR_some {d : List UInt8} {l : List Pt} {S : List Nat} {os : List (Int × List UInt8)} (h : opR d = some (l, S, os)) : okL d = true ∧ prd (unL d) = (l, S, true) ∧ packR l = some os := by
  unfold opR at h
  split at h
  · rename_i c
    cases hp : packR (prd (unL d)).1 with
    | none => rw [hp] at h; cases h
    | some os' =>
      rw [hp] at h
      simp only [Option.map_some, Option.some.injEq, Prod.mk.injEq] at h
      obtain ⟨h1, h2, h3⟩ := h
      refine ⟨c.1, Prod.ext h1 (Prod.ext h2 c.2), by rw [← h1, hp, h3]⟩
  · cases h
set_option maxHeartbeats 4000000 in
theorem popen_any (d : List UInt8) (w : World) (hd : d.length ≤ 1073741824) (hT : Tie w) (hC : TieC w) :
    Calls Tryz.prog 12 #[.string (bs d)] w fun e w' => Below w.heap.size w w' ∧ ((∃ l S os g, opR d = some (l, S, os) ∧ e = .returned (.tuple #[.pointer (some ⟨g, 0, none⟩), .int .i64 0]) ∧ PackAt w' g l S os ∧ w.heap.size ≤ g) ∨ (opR d = none ∧ e = .returned (.tuple #[.pointer none, .int .i64 2]))) := by
  have CU := Lib.hid (fun (_ : Unit) => unseal_l d w hd hC)
  obtain ⟨q, hq⟩ : ∃ q, q = okL d := ⟨_, rfl⟩
  obtain ⟨R, hR⟩ : ∃ R, R = opR d := ⟨_, rfl⟩
  rw [← hR]
  rw [← hq] at CU
  have hlen : (unL d).length ≤ d.length := by unfold unL; split <;> simp
  have TI := Lib.hid hT
  cases q with
  | false =>
    have HR : Hid (R = none) := by show _ = _; rw [hR]; unfold opR; rw [if_neg (fun c => by rw [← hq] at c; cases c.1)]
    generalize bs (unL d) = bu at CU
    clear hd hT hC hq hR hlen TI
    generalize bs d = bd at *
    go_enter Tryz.func12, Tryz.ntmps12
    go_wp2_with fail
    refine (CU.out ()).mono ?_
    rintro e w1 ⟨rfl, B1⟩
    clear CU
    go_wp2
    go_ret2
    exact ⟨B1, Or.inr ⟨HR.out, rfl⟩⟩
  | true =>
    obtain ⟨u, hu⟩ : ∃ u, u = unL d := ⟨_, rfl⟩
    rw [← hu] at CU hlen
    have hu4 : u.length ≤ 281474976710656 := by omega
    have CN := Lib.hid (fun W => new_any u W hu4)
    have CR : Hid (∀ W r, Rd W r u 0 0 → _) := Lib.hid (fun W r h => rparts_any (w := W) (r := r) h hu4)
    obtain ⟨l, S, b, hp⟩ : ∃ l S b, prd u = (l, S, b) := ⟨_, _, _, rfl⟩
    have hpl := prd_len u
    rw [hp] at CR hpl
    dsimp only at CR hpl
    have CP : Hid (∀ W v, RowP W v l → Tie W → _) := Lib.hid (fun W v h k => packof_any (w := W) (v := v) h k (by omega) (fun x hx => by have := hpl.2.2 x hx; omega))
    have HR : Hid ((b = false → R = none) ∧ (b = true → R = (packR l).map (fun os => (l, S, os)))) := by
      refine ⟨fun hb => ?_, fun hb => ?_⟩
      · rw [hR]; unfold opR; rw [← hu, hp, if_neg (fun c => by rw [hb] at c; cases c.2)]
      · rw [hR]; unfold opR; rw [← hu, hp, if_pos ⟨hq.symm, hb⟩]
    generalize bs u = bu at CU CN
    clear hd hT hC hq hR hlen hp hpl hu hu4
    generalize bs d = bd at *
    go_enter Tryz.func12, Tryz.ntmps12
    go_wp2_with fail
    refine (CU.out ()).mono ?_
    rintro e w1 ⟨rfl, B1⟩
    have L1 := Lib.hid B1
    clear CU B1
    go_wp2_with fail
    refine (CN.out _).mono ?_
    rintro e w2 ⟨r, rfl, hr, R2, B2⟩
    have L2 := Lib.hid (L1.out.trans (B2.mono L1.out.size))
    have HR2 := Lib.hid R2
    have HRN : Hid (w.heap.size ≤ r) := Nat.le_trans L1.out.size hr
    clear CN R2 hr B2
    go_wp2_with fail
    refine (CR.out _ _ HR2.out).mono ?_
    rintro e w3 ⟨vl, vs, rfl, O3, N3, K3⟩
    have L3 : Hid (Below w.heap.size w w3) := L2.out.trans (Keep.below (K3.mono (K' := fun k => k < w.heap.size) (fun k hk _ => by have := HRN.out; omega)) L2.out.size)
    have HO3 := Lib.hid O3.row
    have HN3 := Lib.hid N3.row
    have T3 := Lib.hid (TI.out.below L3.out)
    obtain ⟨as_, ns, cs, rfl⟩ : ∃ ad n cap, vs = .slice ad n cap := by
      obtain ⟨x1, x2, x3⟩ := RowG.len HN3.out
      exact ⟨_, _, _, x3⟩
    clear O3 N3 K3 CR HR2
    go_wp2_with fail
    refine (CP.out _ _ HO3.out T3.out).mono ?_
    rintro e w4 ⟨B4, ⟨os, hos, w5, vo, vd, B5, rfl, hPL⟩ | ⟨hno, rfl⟩⟩
    · have L4 := Lib.hid (L3.out.trans (B4.mono L3.out.size))
      cases b with
      | false =>
        have HF := Lib.hid (HR.out.1 rfl)
        obtain ⟨g0, hg0⟩ : ∃ g0, g0 = w5.heap.size + 1 := ⟨_, rfl⟩
        rw [← hg0]
        clear hPL CP HR B4 B5 hg0 hos
        go_wp2
        go_ret2
        exact ⟨L4.out, Or.inr ⟨HF.out, rfl⟩⟩
      | true =>
        have HF : Hid (R = some (l, S, os)) := by show _ = _; rw [HR.out.2 rfl, hos]; rfl
        have hP2 := PL.pack (hPL.spot (.slice as_ ns cs)) (RowG.below HO3.out B5) (RowG.below HN3.out B5)
        have HP2 := Lib.hid hP2
        have f1 := frozen_of_row _ _ 1 _ _ hPL.bl
        have e1 := cell_of_row _ _ 1 _ _ _ hPL.bl
        have HG : Hid (w.heap.size ≤ w5.heap.size + 1) := by show _ ≤ _; have := B5.size; have := L3.out.size; omega
        have LE : Hid (∀ u, Below w.heap.size w (w4.setCell ⟨w5.heap.size + 1, 1, none⟩ u)) := fun u => L4.out.setCell HG.out u
        clear hPL CP HR B4 B5 hos hP2
        go_wp2
        go_ret2
        exact ⟨LE.out _, Or.inl ⟨l, S, os, w5.heap.size + 1, HF.out, rfl, HP2.out, HG.out⟩⟩
    · have L4 := Lib.hid (L3.out.trans (B4.mono L3.out.size))
      have HF : Hid (R = none) := by
        show _ = _
        cases b with
        | false => exact HR.out.1 rfl
        | true => rw [HR.out.2 rfl, hno]; rfl
      clear CP HR B4 hno
      cases b with
      | false =>
        go_wp2
        go_ret2
        exact ⟨L4.out, Or.inr ⟨HF.out, rfl⟩⟩
      | true =>
        go_wp2
        go_ret2
        exact ⟨L4.out, Or.inr ⟨HF.out, rfl⟩⟩
end Go.Proofs.YtnmjcpoobabjgaaGreatDoor
/- What is saved of bytes. -/
namespace Go.Proofs.YtnmjcpoobabjgaaGreatDoor
set_option maxRecDepth 100000
open Go.RowKit Classical
noncomputable def svO (o : Option (Int × List UInt8)) (acc : List (Int × List UInt8)) : List (Int × List UInt8) := match o with | some x => if x ∈ acc then acc else acc ++ [x] | none => acc
noncomputable def svS (T : List UInt8 × Int) (acc : List (Int × List UInt8)) : List (Int × List UInt8) := if T.2 = 0 then svO (frameOf T.1) acc else acc
/- the objects that are saved of the first parts -/
noncomputable def svR (l : List Pt) : Nat → List (Int × List UInt8)
  | 0 => []
  | n + 1 => svS (textR l (n : Int)) (svR l n)
theorem svR_len (l : List Pt) : ∀ n, (svR l n).length ≤ n
  | 0 => Nat.le_refl _
  | n + 1 => by
    have := svR_len l n
    unfold svR svS
    split
    · unfold svO
      split
      · split
        · omega
        · simp; omega
      · omega
    · omega
theorem textR_len (l : List Pt) (i : Int) : (textR l i).1.length ≤ 4099 := by
  unfold textR
  split
  · exact txq_len _ _
  · simp
set_option maxHeartbeats 8000000 in
theorem psave_any (d : List UInt8) (w : World) (hd : d.length ≤ 1073741824) :
    Calls Tryz.prog 23 #[.string (bs d)] w fun e w' => ∃ v, e = .returned v ∧ RowO w' v (svR (prd d).1 (prd d).1.length) ∧ Below w.heap.size w w' := by
  have CN := Lib.hid (fun W => new_any d W (by omega))
  have CR : Hid (∀ W r, Rd W r d 0 0 → _) := Lib.hid (fun W r h => rparts_any (w := W) (r := r) h (by omega))
  obtain ⟨l, S, b, hp⟩ : ∃ l S b, prd d = (l, S, b) := ⟨_, _, _, rfl⟩
  have hpl := prd_len d
  rw [hp] at CR hpl ⊢
  dsimp only at CR hpl ⊢
  have CT : Hid (∀ W v (k : Nat), RowP W v l → Calls Tryz.prog 43 #[v, .int .i64 (k : Int)] W fun e w' => e = .returned (.tuple #[.string (bs (textR l (k : Int)).1), .int .i64 (textR l (k : Int)).2]) ∧ Below W.heap.size W w') := fun W v k h => text_any9 (k : Int) h (by omega) (fun x hx => by have := hpl.2.2 x hx; omega)
  have HL : Hid (l.length ≤ 200) := hpl.1
  obtain ⟨f, hf⟩ : ∃ f : Nat → List UInt8 × Int, f = fun (i : Nat) => textR l (i : Int) := ⟨_, rfl⟩
  have CT2 : Hid (∀ W v (k : Nat), RowP W v l → Calls Tryz.prog 43 #[v, .int .i64 (k : Int)] W fun e w' => e = .returned (.tuple #[.string (bs (f k).1), .int .i64 (f k).2]) ∧ Below W.heap.size W w') := by rw [hf]; exact CT.out
  have HS1 : Hid (∀ k, svR l (k + 1) = svS (f k) (svR l k)) := by rw [hf]; exact fun k => rfl
  have HF4 : Hid (∀ k, (f k).1.length ≤ 4099) := by rw [hf]; exact fun k => textR_len _ _
  have HSL : Hid (∀ k, (svR l k).length ≤ k) := svR_len l
  obtain ⟨sv, hsv⟩ : ∃ sv, sv = svR l := ⟨_, rfl⟩
  have HS0 : Hid (sv 0 = []) := by show _ = _; rw [hsv]; rfl
  rw [← hsv] at HS1 HSL ⊢
  obtain ⟨bd, hbd⟩ : ∃ bd, bd = bs d := ⟨_, rfl⟩
  rw [← hbd] at CN ⊢
  obtain ⟨n, hn⟩ : ∃ n, n = l.length := ⟨_, rfl⟩
  rw [← hn]
  have hn2 : n ≤ 200 := by have := HL.out; omega
  have HN := Lib.hid hn
  clear hd hp hpl CT hf hsv hbd hn
  go_enter Tryz.func23, Tryz.ntmps23
  go_wp2_with fail
  refine (CN.out _).mono ?_
  rintro e w2 ⟨r, rfl, hr, R2, B2⟩
  have L2 := Lib.hid B2
  have HR2 := Lib.hid R2
  have HRN : Hid (w.heap.size ≤ r) := hr
  clear CN R2 hr B2
  go_wp2_with fail
  refine (CR.out _ _ HR2.out).mono ?_
  rintro e w3 ⟨vl, vs, rfl, O3, N3, K3⟩
  have L3 : Hid (Below w.heap.size w w3) := L2.out.trans (Keep.below (K3.mono (K' := fun k => k < w.heap.size) (fun k hk _ => by have := HRN.out; omega)) L2.out.size)
  obtain ⟨al, cl, rfl⟩ : ∃ ad cap, vl = .slice ad n cap := by
    obtain ⟨x1, x2, x3⟩ := RowG.len O3.row
    exact ⟨_, _, by rw [HN.out]; exact x3⟩
  have HO3 := Lib.hid O3.row
  clear O3 N3 K3 CR HR2
  have A0 : Hid (OwnO w3 w3.heap.size (.slice none 0 0) (sv 0)) := by show OwnO _ _ _ _; rw [HS0.out]; exact OwnG.nil _ _ _ _ _ _
  go_wp2
  go_loopw [21, 6] (fun i a wr => ∃ (k : Nat) (u : Value), u = a ∧ k ≤ n ∧ i = .int .i64 (k : Int) ∧ Hid (OwnO wr w3.heap.size u (sv k)) ∧ Hid (Below w3.heap.size w3 wr)) (fun i _ _ => n - (intOf i).toNat)
  case atStart => exact ⟨0, _, rfl, Nat.zero_le _, rfl, A0, Below.refl _ _⟩
  case round =>
    obtain ⟨k, u, rfl, hk, rfl, hO, hB⟩ := hrel
    clear A0
    by_cases hlt : k < n
    · have yk : (k : Int) < (n : Int) := by omega
      have w5 : IntKind.i64.wrap ((k : Int) + 1) = (k : Int) + 1 := IntWalk.i64_in _ (by omega)
      obtain ⟨au, m, cu, hm, rfl⟩ : ∃ ad m cap, m = (sv k).length ∧ u = .slice ad m cap := by
        obtain ⟨x1, x2, x3⟩ := RowG.len hO.out.row
        exact ⟨_, _, _, rfl, x3⟩
      have HM := Lib.hid hm
      have C4 := Lib.hid (CT2.out wr _ k (RowG.below HO3.out hB.out))
      have hf4 := HF4.out k
      have S1 := Lib.hid (HS1.out k)
      have SL := Lib.hid (HSL.out k)
      obtain ⟨t, er, hte⟩ : ∃ t er, f k = (t, er) := ⟨_, _, rfl⟩
      rw [hte] at C4 S1 hf4
      dsimp only at C4 hf4
      have CRd := Lib.hid (fun W => oread2_any t W (by omega))
      obtain ⟨acc, hacc⟩ : ∃ acc, acc = sv k := ⟨_, rfl⟩
      rw [← hacc] at S1 SL hO HM
      clear hm hte hf4 hacc
      generalize bs t = ts at *
      by_cases he : er = 0
      · subst he
        have S2 : Hid (sv (k + 1) = svO (frameOf t) acc) := by show _ = _; rw [S1.out]; unfold svS; rw [if_pos rfl]
        clear S1
        cases hft : frameOf t with
        | none =>
          rw [hft] at CRd S2
          have S3 : Hid (sv (k + 1) = acc) := S2.out
          unfold rdv at CRd
          dsimp only at CRd
          clear S2 hft
          go_wp2_with fail
          refine C4.out.mono ?_
          rintro e w4 ⟨rfl, B4⟩
          have O4 := Lib.hid (hO.out.all B4)
          have L4 := Lib.hid (hB.out.trans (B4.mono hB.out.size))
          clear B4 C4 hO hB
          go_wp2_with fail
          refine (CRd.out _).mono ?_
          rintro e w6 ⟨rfl, B6⟩
          have hA : Below w6.heap.size w6 (w6.alloc (.cells #[.int .i64 0, .string ⟨#[]⟩] 43)) := (Below.refl _ _).alloc (Nat.le_refl _) _
          have O6 : Hid (OwnO (w6.alloc (.cells #[.int .i64 0, .string ⟨#[]⟩] 43)) w3.heap.size (.slice au m cu) (sv (k + 1))) := by show OwnO _ _ _ _; rw [S3.out]; exact OwnG.all (OwnG.all O4.out B6) hA
          have L6 : Hid (Below w3.heap.size w3 (w6.alloc (.cells #[.int .i64 0, .string ⟨#[]⟩] 43))) := (L4.out.trans (B6.mono L4.out.size)).trans (hA.mono (L4.out.trans (B6.mono L4.out.size)).size)
          clear B6 CRd O4 L4 hA
          go_wp2
          go_roundw
          case rel => exact ⟨k + 1, _, rfl, by omega, by go_num, O6, L6⟩
          case measure => simp [intOf]; omega
        | some x =>
          rw [hft] at CRd S2
          unfold rdv at CRd
          unfold svO at S2
          dsimp only at CRd S2
          have CC : Hid (∀ W u, RowO W u acc → _) := Lib.hid (fun W u h => ocontains_any (w := W) (v := u) x h (by have := SL.out; omega))
          obtain ⟨xk, hxk⟩ : ∃ xk, xk = x.1 := ⟨_, rfl⟩
          obtain ⟨xs, hxs⟩ : ∃ xs, xs = bs x.2 := ⟨_, rfl⟩
          rw [← hxk, ← hxs] at CRd CC
          have HXk := Lib.hid hxk
          have HXs := Lib.hid hxs
          clear hft hxk hxs
          go_wp2_with fail
          refine C4.out.mono ?_
          rintro e w4 ⟨rfl, B4⟩
          have O4 := Lib.hid (hO.out.all B4)
          have L4 := Lib.hid (hB.out.trans (B4.mono hB.out.size))
          clear B4 C4 hO hB
          go_wp2_with fail
          refine (CRd.out _).mono ?_
          rintro e w6 ⟨rfl, B6⟩
          have hA : Below w6.heap.size w6 (w6.alloc (.cells #[.int .i64 xk, .string xs] 43)) := (Below.refl _ _).alloc (Nat.le_refl _) _
          have O6 : Hid (OwnO (w6.alloc (.cells #[.int .i64 xk, .string xs] 43)) w3.heap.size (.slice au m cu) acc) := OwnG.all (OwnG.all O4.out B6) hA
          have L6 : Hid (Below w3.heap.size w3 (w6.alloc (.cells #[.int .i64 xk, .string xs] 43))) := (L4.out.trans (B6.mono L4.out.size)).trans (hA.mono (L4.out.trans (B6.mono L4.out.size)).size)
          have PO : Hid ((w6.alloc (.cells #[.int .i64 xk, .string xs] 43)).heap[w6.heap.size]? = some (.cells #[.int .i64 xk, .string xs] 43 (0, 0))) := heap_alloc_new _ _
          clear B6 CRd O4 L4 hA
          go_wp2_with fail
          refine (CC.out _ _ O6.out.row).mono ?_
          rintro e w7 ⟨rfl, B7⟩
          have O7 := Lib.hid (O6.out.all B7)
          have L7 := Lib.hid (L6.out.trans (B7.mono L6.out.size))
          have P7 : Hid (w7.heap[w6.heap.size]? = some (.cells #[.int .i64 xk, .string xs] 43 (0, 0))) := by show _ = _; rw [B7.block _ (lt_of_block PO.out)]; exact PO.out
          clear B7 O6 L6 PO CC
          by_cases hx : x ∈ acc
          · rw [decide_eq_true hx]
            have O8 : Hid (OwnO w7 w3.heap.size (.slice au m cu) (sv (k + 1))) := by show OwnO _ _ _ _; rw [S2.out, if_pos hx]; exact O7.out
            clear O7 S2
            go_wp2
            go_roundw
            case rel => exact ⟨k + 1, _, rfl, by omega, by go_num, O8, L7⟩
            case measure => simp [intOf]; omega
          · rw [decide_eq_false hx]
            have q0 := cell_of_row _ _ 0 _ _ _ P7.out
            have q1 := cell_of_row _ _ 1 _ _ _ P7.out
            obtain ⟨b1, c1, w8, hr, O8, B8⟩ := app_o x O7.out L7.out.size (by have := SL.out; omega)
            rw [← HXk.out, ← HXs.out, ← HM.out] at hr
            rw [← HM.out] at O8
            have HO8 : Hid (OwnO w8 w3.heap.size (.slice (some ⟨b1, 0, none⟩) (m + 1) c1) (sv (k + 1))) := by show OwnO _ _ _ _; rw [S2.out, if_neg hx]; exact O8
            have L8 := Lib.hid (L7.out.trans B8)
            clear O8 B8 O7 L7 S2
            go_wp2_with (at_builtin; refine wpList_append_run rfl (.tmp 45) (.tmp 47) 29 29 rfl _ _ _ _ rfl rfl hr ?_)
            clear hr
            go_wp2
            go_roundw
            case rel => exact ⟨k + 1, _, rfl, by omega, by go_num, HO8, L8⟩
            case measure => simp [intOf]; omega
      · have S3 : Hid (sv (k + 1) = acc) := by show _ = _; rw [S1.out]; unfold svS; rw [if_neg he]
        clear S1 CRd
        go_wp2_with fail
        refine C4.out.mono ?_
        rintro e w4 ⟨rfl, B4⟩
        have O4 : Hid (OwnO w4 w3.heap.size (.slice au m cu) (sv (k + 1))) := by show OwnO _ _ _ _; rw [S3.out]; exact hO.out.all B4
        have L4 := Lib.hid (hB.out.trans (B4.mono hB.out.size))
        clear B4 C4 hO hB
        go_wp2
        go_roundw
        case rel => exact ⟨k + 1, _, rfl, by omega, by go_num, O4, L4⟩
        case measure => simp [intOf]; omega
    · have e : k = n := by omega
      subst e
      have HF := Lib.hid hO.out.row
      have LF := Lib.hid (L3.out.trans (hB.out.mono L3.out.size))
      clear hlt hO hB
      go_wp2
      go_ret
      exact ⟨u, rfl, HF.out, LF.out⟩
end Go.Proofs.YtnmjcpoobabjgaaGreatDoor
/- What follows of packs, plainly: they are opened as they were, and all is saved. -/
namespace Go.Proofs.YtnmjcpoobabjgaaGreatDoor
set_option maxRecDepth 100000
open Go.RowKit Classical
theorem same32_refl (f : Nat → UInt8) : same32 f f := fun _ _ => rfl
theorem same32_symm {f g : Nat → UInt8} (h : same32 f g) : same32 g f := fun i hi => (h i hi).symm
def Dist (L : List (Nat → UInt8)) : Prop := L.Pairwise (fun f g => ¬ same32 f g)
theorem idx_none {f : Nat → UInt8} : ∀ {L : List (Nat → UInt8)} {i : Nat}, idx f L i = none ↔ ∀ g ∈ L, ¬ same32 f g
  | [], i => by simp [idx]
  | g :: r, i => by
    unfold idx
    by_cases c : same32 f g
    · rw [if_pos c]
      simp only [reduceCtorEq, List.mem_cons, forall_eq_or_imp, false_iff, not_and]
      exact fun h => absurd c h
    · rw [if_neg c, idx_none]
      simp only [List.mem_cons, forall_eq_or_imp]
      exact ⟨fun h => ⟨c, h⟩, fun h => h.2⟩
theorem idx_at : ∀ {L : List (Nat → UInt8)} {i k : Nat}, Dist L → k < L.length → idx (L.getD k zf) L i = some (i + k)
  | [], _, _, _, h => by simp at h
  | g :: r, i, 0, _, _ => by
    unfold idx
    rw [List.getD_cons_zero, if_pos (same32_refl g)]; rfl
  | g :: r, i, k + 1, hd, hk => by
    have hk2 : k < r.length := by simpa using hk
    unfold Dist at hd
    rw [List.pairwise_cons] at hd
    unfold idx
    rw [List.getD_cons_succ, if_neg (fun c => hd.1 _ (getD_mem r zf k hk2) (same32_symm c)), idx_at hd.2 hk2]
    congr 1
    omega
theorem pk_ok : ∀ {T : List (List UInt8)} {acc os : List (Int × List UInt8)}, pk T acc = some os → os.length = acc.length + T.length ∧ os.take acc.length = acc ∧ (∀ k, k < T.length → frameOf (T.getD k []) = some (os.getD (acc.length + k) zo)) ∧ (Dist (acc.map oid) → Dist (os.map oid))
  | [], acc, os, h => by
    simp only [pk, Option.some.injEq] at h
    subst h
    exact ⟨rfl, List.take_length, fun k hk => by simp at hk, id⟩
  | t :: r, acc, os, h => by
    cases hf : frameOf t with
    | none => rw [pk_bad hf] at h; cases h
    | some o =>
      by_cases hx : idx (oid o) (acc.map oid) 0 = none
      · rw [pk_more hf hx] at h
        obtain ⟨h1, h2, h3, h4⟩ := pk_ok h
        rw [List.length_append, List.length_singleton] at h1 h2 h3
        have h5 : os.take acc.length = acc := by
          have := congrArg (List.take acc.length) h2
          rw [List.take_take, Nat.min_eq_left (by omega), List.take_left'] at this
          · exact this
          · rfl
        have h6 : os.getD acc.length zo = o := by
          have := congrArg (fun z => z.getD acc.length zo) h2
          simp only [List.getD_eq_getElem?_getD, List.getElem?_take, List.getElem?_append_right (Nat.le_refl _), Nat.sub_self] at this
          rw [if_pos (by omega)] at this
          rw [List.getD_eq_getElem?_getD, this]; rfl
        refine ⟨by rw [h1, List.length_cons]; omega, h5, fun k hk => ?_, fun hd => h4 ?_⟩
        · cases k with
          | zero => rw [List.getD_cons_zero, Nat.add_zero, h6, hf]
          | succ k =>
            rw [List.getD_cons_succ, h3 k (by simpa using hk)]
            congr 2
            omega
        · unfold Dist at hd ⊢
          rw [List.map_append, List.map_singleton, List.pairwise_append]
          refine ⟨hd, List.pairwise_singleton _ _, fun a ha b hb => ?_⟩
          rw [List.mem_singleton] at hb
          subst hb
          exact fun c => idx_none.1 hx a ha (same32_symm c)
      · rw [pk_twice hf hx] at h; cases h
theorem pack_ok {l : List Pt} {os : List (Int × List UInt8)} (h : packR l = some os) : os.length = l.length ∧ Dist (os.map oid) ∧ ∀ k, k < l.length → (textR l (k : Int)).2 = 0 ∧ frameOf (textR l (k : Int)).1 = some (os.getD k zo) := by
  obtain ⟨h1, h2⟩ := pack_right h
  obtain ⟨h3, -, h4, h5⟩ := pk_ok h2
  have hl := (allT_len h1).2
  obtain ⟨h6, h7⟩ := allR_ok h1
  simp only [List.length_nil, Nat.zero_add] at h3 h4
  refine ⟨by omega, h5 List.Pairwise.nil, fun k hk => ⟨h7 k hk, ?_⟩⟩
  have := h4 k (by omega)
  have e : (allT l).1.getD k [] = (textR l (k : Int)).1 := by
    unfold allT
    rw [h6, List.getD_eq_getElem?_getD, List.getElem?_map, List.getElem?_range hk]; rfl
  rw [e] at this
  exact this
theorem svR_pack {l : List Pt} {os : List (Int × List UInt8)} (h : packR l = some os) : ∀ n, n ≤ l.length → svR l n = os.take n
  | 0, _ => rfl
  | n + 1, hn => by
    obtain ⟨h1, h2, h3⟩ := pack_ok h
    obtain ⟨h4, h5⟩ := h3 n (by omega)
    have e : os.take (n + 1) = os.take n ++ [os.getD n zo] := by
      rw [List.take_add_one, List.getElem?_eq_getElem (by omega), List.getD_eq_getElem?_getD, List.getElem?_eq_getElem (by omega)]; rfl
    unfold svR svS
    rw [if_pos h4, h5, svR_pack h n (by omega)]
    unfold svO
    rw [e]
    dsimp only
    rw [if_neg]
    intro hm
    obtain ⟨i, hi, he⟩ := List.mem_iff_getElem.1 hm
    rw [List.length_take] at hi
    have hi2 : i < n := by omega
    rw [List.getElem_take] at he
    unfold Dist at h2
    rw [List.pairwise_iff_getElem] at h2
    refine h2 i n (by rw [List.length_map]; omega) (by rw [List.length_map]; omega) hi2 ?_
    rw [List.getElem_map, List.getElem_map, he, List.getD_eq_getElem?_getD, List.getElem?_eq_getElem (by omega)]
    exact same32_refl _
/- what is opened of what was written -/
theorem opR_write {l : List Pt} {os : List (Int × List UInt8)} (h : packR l = some os) (ht : ∀ x ∈ l, x.t.length ≤ 65536) : opR (sealL (bodyB l)) = some (l, spt l (4 + (dg l.length).length) 0, os) := by
  obtain ⟨h1, -⟩ := pack_right h
  have hp := prd_body (R := []) (right_fm h1).1 (right_ok h1 ht)
  rw [List.append_nil] at hp
  unfold opR
  rw [unL_seal, hp]
  dsimp only
  rw [if_pos ⟨okL_seal _, by simp⟩, h]
  rfl
/- what was opened is written as it was -/
theorem opR_back {d : List UInt8} {l : List Pt} {S : List Nat} {os : List (Int × List UInt8)} (h : opR d = some (l, S, os)) : sealL (bodyB l) = d ∧ packR l = some os ∧ (∀ x ∈ l, x.t.length ≤ 65536) ∧ l.length ≤ 200 ∧ os.length = l.length ∧ S.length = l.length := by
  obtain ⟨h1, h2, h3⟩ := opR_some h
  have h4 := prd_there (d := unL d) (by rw [h2])
  have h5 := prd_len (unL d)
  rw [h2] at h4 h5
  refine ⟨by rw [← h4.1]; exact (okL_there h1).symm, h3, h5.2.2, h5.1, (pack_ok h3).1, h5.2.1⟩
/- the parts that alive packs -/
def AL : List Pt := [⟨false, 0, [98, 2, 97, 98]⟩]
theorem AL_text : textR AL 0 = ([98, 2, 97, 98], 0) := by
  have h1 : wayR AL 0 = ([0], 0) := by decide +kernel
  unfold textR
  rw [h1, if_pos rfl]
  show txq AL 0 = _
  rw [txq_plain (show (AL.getD 0 zp).d = false from rfl) []]
  rfl
theorem AL_frame : frameOf [98, 2, 97, 98] = some (1, [97, 98]) := by
  rw [frameOf_some]
  refine ⟨⟨by simp, Or.inl rfl⟩, ?_⟩
  have e : fb 1 [97, 98] = [98, 2, 97, 98] := by
    unfold fb tx
    rw [dg_low (by decide)]
    rfl
  exact e.symm
theorem AL_pack : packR AL = some [(1, [97, 98])] := by
  have h1 : allT AL = ([[98, 2, 97, 98]], 0) := by
    show allR (fun i => textR AL (i : Int)) 1 = _
    rw [allR, allR]
    have h : textR AL ((0 : Nat) : Int) = ([98, 2, 97, 98], 0) := AL_text
    rw [h]
    rfl
  unfold packR
  rw [h1, if_pos rfl, pk_more AL_frame rfl]
  rfl
theorem AL_small : ∀ x ∈ AL, x.t.length ≤ 65536 := by
  intro x hx
  rw [AL, List.mem_singleton] at hx
  subst hx
  decide
theorem AL_len : (sealL (bodyB AL)).length = 15 := by
  rw [sealL_len]
  have : (bodyB AL).length = 11 := by
    unfold bodyB AL pbs pbs pbt tx ahd
    rw [dg_low (by decide), dg_low (by decide), dg_low (by decide)]
    rfl
  omega
end Go.Proofs.YtnmjcpoobabjgaaGreatDoor
/- What every right program answers. -/
namespace Go.Proofs.YtnmjcpoobabjgaaGreatDoor
set_option maxRecDepth 100000
open Go.RowKit Classical
theorem pfind_at {w : World} {g : Nat} {l : List Pt} {S : List Nat} {os : List (Int × List UInt8)} (f : Nat → UInt8) (h : PackAt w g l S os) :
    Calls Tryz.prog 19 #[.pointer (some ⟨g, 0, none⟩), .agg (arr 32 (bv f))] w fun e w' => e = .returned (.int .i64 (fnd f (os.map oid))) ∧ Below w.heap.size w w' := by
  obtain ⟨vp, vs, vo, vd, m, h1, -, -, -, -, h6⟩ := h.there
  exact pfind_any f h1 h6
theorem AL_row (w : World) : RowP (w.alloc (.cells #[.bool false, .int .i64 0, .string ⟨#[98, 2, 97, 98]⟩] 60)) (.slice (some ⟨w.heap.size, 0, none⟩) 1 1) AL := by
  have h := heap_alloc_new w (.cells #[.bool false, .int .i64 0, .string ⟨#[98, 2, 97, 98]⟩] 60)
  refine .inr ⟨w.heap.size, 0, 1, rfl, by decide, by decide, by simp, fun j hj => ?_⟩
  rw [cell_of_row _ _ _ _ _ _ h]
  match j, hj with
  | 0, _ => rfl
  | 1, _ => rfl
  | 2, _ => rfl
  | j + 3, hj => simp [AL] at hj; omega
set_option maxHeartbeats 4000000 in
theorem palive_any (w : World) (hT : Tie w) (hC : TieC w) : Calls Tryz.prog 7 #[] w fun e w' => e = .returned (.bool true) ∧ Below w.heap.size w w' := by
  have hop := opR_write AL_pack AL_small
  obtain ⟨bb, hbb⟩ : ∃ bb, bb = bs (sealL (bodyB AL)) := ⟨_, rfl⟩
  obtain ⟨OS, hOS⟩ : ∃ OS : List (Int × List UInt8), OS = [(1, [97, 98])] := ⟨_, rfl⟩
  obtain ⟨S, hS⟩ : ∃ S, S = spt AL (4 + (dg AL.length).length) 0 := ⟨_, rfl⟩
  rw [← hOS, ← hS] at hop
  have hz : bb.size = 15 := by rw [hbb, bs_size, AL_len]
  have CW : Hid (∀ W v, RowP W v AL → Tie W → TieC W → Calls Tryz.prog 9 #[v] W fun e w' => e = .returned (.tuple #[.string bb, .int .i64 0]) ∧ Below W.heap.size W w') := fun W v h1 h2 h3 => by
    have := pwrite_any h1 h2 h3 (by decide) AL_small
    unfold wrv at this
    rw [AL_pack] at this
    dsimp only at this
    rw [← hbb] at this
    exact this
  have CO : Hid (∀ W, Tie W → TieC W → Calls Tryz.prog 12 #[.string bb] W fun e w' => Below W.heap.size W w' ∧ ∃ g, e = .returned (.tuple #[.pointer (some ⟨g, 0, none⟩), .int .i64 0]) ∧ PackAt w' g AL S OS) := fun W h2 h3 => by
    have := popen_any (sealL (bodyB AL)) W (by rw [AL_len]; decide) h2 h3
    rw [← hbb, hop] at this
    refine this.mono fun e w' h => ⟨h.1, ?_⟩
    rcases h.2 with ⟨l, S', os, g, h4, h5, h6, -⟩ | ⟨h4, -⟩
    · simp only [Option.some.injEq, Prod.mk.injEq] at h4
      obtain ⟨rfl, rfl, rfl⟩ := h4
      exact ⟨g, h5, h6⟩
    · cases h4
  have hl1 : OS.length = AL.length := by rw [hOS]; rfl
  have CB : Hid (∀ W g, PackAt W g AL S OS → Calls Tryz.prog 14 #[.pointer (some ⟨g, 0, none⟩), .int .i64 0] W fun e w' => e = .returned (.tuple #[.agg #[.int .i64 1, .string ⟨#[97, 98]⟩], .bool true]) ∧ Below W.heap.size W w') := fun W g h => by
    have := pobject_any 0 h hl1
    rw [hOS] at this
    exact this
  have CS : Hid (∀ W, Calls Tryz.prog 23 #[.string bb] W fun e w' => ∃ ad cap, e = .returned (.slice ad 1 cap) ∧ Below W.heap.size W w') := fun W => by
    have := psave_any (sealL (bodyB AL)) W (by rw [AL_len]; decide)
    rw [← hbb] at this
    have e : (prd (sealL (bodyB AL))).1 = AL := by
      have := prd_body (l := AL) (R := sumL (bodyB AL)) (by decide) (right_ok (pack_right AL_pack).1 AL_small)
      unfold sealL
      rw [this]
    rw [e, svR_pack AL_pack AL.length (Nat.le_refl _)] at this
    refine this.mono fun e w' h => ?_
    obtain ⟨v, h1, h2, h3⟩ := h
    obtain ⟨ad, cap, rfl⟩ := RowG.len h2
    exact ⟨ad, cap, h1, h3⟩
  obtain ⟨D, hD⟩ : ∃ D, D = oid (1, [97, 98]) := ⟨_, rfl⟩
  have CI : Hid (∀ W g, PackAt W g AL S OS → Calls Tryz.prog 17 #[.pointer (some ⟨g, 0, none⟩), .int .i64 0] W fun e w' => e = .returned (.agg (arr 32 (bv D))) ∧ Below W.heap.size W w') := fun W g h => by
    have := pid_any 0 h hl1
    rw [show idv (OS.map oid) AL.length 0 = D by rw [hOS, hD]; rfl] at this
    exact this
  have CF : Hid (∀ W g, PackAt W g AL S OS → Calls Tryz.prog 19 #[.pointer (some ⟨g, 0, none⟩), .agg (arr 32 (bv D))] W fun e w' => e = .returned (.int .i64 0) ∧ Below W.heap.size W w') := fun W g h => by
    have := pfind_at D h
    rw [show fnd D (OS.map oid) = 0 by
      unfold fnd
      rw [hOS, hD, List.map_singleton]
      unfold idx
      rw [if_pos (same32_refl _)]
      rfl] at this
    exact this
  have HEQ : Hid (∀ W : World, (binOp .eql 43 (.agg #[.int .i64 1, .string ⟨#[97, 98]⟩]) (.agg #[.int .i64 1, .string ⟨#[97, 98]⟩])).run Tryz.prog W = .ok (.bool true) W) := fun W => by
    have := eqlOb (1, [97, 98]) (1, [97, 98]) W
    rw [decide_eq_true rfl] at this
    exact this
  have TI := Lib.hid hT
  have TC := Lib.hid hC
  have bz : (bb.size : Int) = 15 := by omega
  clear hop hbb hOS hS hz hl1 hD hT hC
  go_enter Tryz.func7, Tryz.ntmps7
  have hA : Below w.heap.size w (w.alloc (.cells #[.bool false, .int .i64 0, .string ⟨#[98, 2, 97, 98]⟩] 60)) := (Below.refl _ _).alloc (Nat.le_refl _) _
  have LA := Lib.hid hA
  have TA := Lib.hid (TI.out.below hA)
  have CA := Lib.hid (TC.out.below hA)
  clear hA
  go_wp2_with fail
  refine (CW.out _ _ (AL_row w) TA.out CA.out).mono ?_
  rintro e w1 ⟨rfl, B1⟩
  have L1 := Lib.hid (LA.out.trans (B1.mono LA.out.size))
  have T1 := Lib.hid (TI.out.below L1.out)
  have C1 := Lib.hid (TC.out.below L1.out)
  clear B1 CW LA TA CA
  go_wp2_with fail
  refine (CO.out _ T1.out C1.out).mono ?_
  rintro e w2 ⟨B2, g, rfl, P2⟩
  have L2 := Lib.hid (L1.out.trans (B2.mono L1.out.size))
  have HP2 := Lib.hid P2
  clear B2 P2 CO L1 T1 C1
  go_wp2_with fail
  refine (CB.out _ _ HP2.out).mono ?_
  rintro e w3 ⟨rfl, B3⟩
  have L3 := Lib.hid (L2.out.trans (B3.mono L2.out.size))
  have HP3 := Lib.hid (HP2.out.below B3)
  have hA : Below w3.heap.size w3 (w3.alloc (.cells #[.int .i64 1, .string ⟨#[97, 98]⟩] 43)) := (Below.refl _ _).alloc (Nat.le_refl _) _
  have L4 := Lib.hid (L3.out.trans (hA.mono L3.out.size))
  have HP4 := Lib.hid (HP3.out.below hA)
  have PO : Hid ((w3.alloc (.cells #[.int .i64 1, .string ⟨#[97, 98]⟩] 43)).heap[w3.heap.size]? = some (.cells #[.int .i64 1, .string ⟨#[97, 98]⟩] 43 (0, 0))) := heap_alloc_new _ _
  clear B3 CB L2 HP2 hA L3 HP3
  go_wp2_with fail
  refine (CS.out _).mono ?_
  rintro e w5 ⟨ad, cap, rfl, B5⟩
  have L5 := Lib.hid (L4.out.trans (B5.mono L4.out.size))
  have HP5 := Lib.hid (HP4.out.below B5)
  have P5 : Hid (w5.heap[w3.heap.size]? = some (.cells #[.int .i64 1, .string ⟨#[97, 98]⟩] 43 (0, 0))) := by show _ = _; rw [B5.block _ (lt_of_block PO.out)]; exact PO.out
  clear B5 CS L4 HP4 PO
  have q0 := cell_of_row _ _ 0 _ _ _ P5.out
  have q1 := cell_of_row _ _ 1 _ _ _ P5.out
  have heq := HEQ.out
  go_wp2_with fail
  refine (CI.out _ _ HP5.out).mono ?_
  rintro e w6 ⟨rfl, B6⟩
  have L6 := Lib.hid (L5.out.trans (B6.mono L5.out.size))
  have HP6 := Lib.hid (HP5.out.below B6)
  clear B6 CI L5 HP5 q0 q1 heq P5
  go_wp2_with fail
  refine (CF.out _ _ HP6.out).mono ?_
  rintro e w7 ⟨rfl, B7⟩
  have L7 := Lib.hid (L6.out.trans (B7.mono L6.out.size))
  clear B7 CF L6 HP6
  go_wp2
  go_ret
  exact ⟨rfl, L7.out⟩
end Go.Proofs.YtnmjcpoobabjgaaGreatDoor
