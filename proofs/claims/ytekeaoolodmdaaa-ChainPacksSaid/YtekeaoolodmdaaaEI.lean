import Derived.Test.YtekeaoolodmdaaaEF
import Derived.Test.YtekeaoolodmdaaaMXG
/- The pieces of a text, the reference's. -/
namespace Go.Proofs.Ytekeaoolodmdaaa
set_option maxRecDepth 100000
open Go.RowKit
theorem take_more (s : List UInt8) (told at_ : Nat) (h : told ≤ at_) (h2 : at_ < s.length) : (s.drop told).take (at_ - told) ++ (s.drop at_).take (at_ + 1 - at_) = (s.drop told).take (at_ + 1 - told) := by
  have e : (s.drop at_).take (at_ + 1 - at_) = ((s.drop told).drop (at_ - told)).take 1 := by
    rw [List.drop_drop, show told + (at_ - told) = at_ by omega, show at_ + 1 - at_ = 1 by omega]
  rw [e, show at_ + 1 - told = (at_ - told) + 1 by omega, List.take_add]
set_option maxHeartbeats 4000000 in
theorem qmake_any (B s : List UInt8) (w : World) (hB : B.length ≤ 4099) (hs : s.length ≤ 4099) :
    Calls Try.prog 27 #[.string (bs B), .string (bs s)] w fun e w' => ∃ v, e = .returned v ∧ OwnZ w' w.heap.size v (made B s) ∧ Below w.heap.size w w' := by
  have zB := bs_size B
  have zs := bs_size s
  have C1 : Hid (∀ (W : World) (k : Nat), Calls Try.prog 37 #[.string (bs B), .string (bs s), .int .i64 (k : Int)] W fun e w' => e = .returned (.tuple #[.int .i64 ((F B s k).1 : Int), .int .i64 ((F B s k).2 : Int)]) ∧ Below W.heap.size W w') := fun W k => by
    have := Mt.qfind_any (bs B) (bs s) (k : Int) W (by omega) (by omega)
    rw [zB, zs] at this
    exact this
  have HX : Hid (∀ a b, (bs s).extract a b = bs ((s.drop a).take (b - a))) := bs_extract s
  have HS := Lib.hid (And.intro zs hs)
  have t1 : ((bs B).size : Int) ≤ 4099 := by omega
  have t2 : ((bs s).size : Int) ≤ 4099 := by omega
  have T0 : Hid (MS B s w.heap.size 0 w [] (.slice none 0 0) 0 0 w) := ⟨OwnZ.nil _ _, by simp, Nat.le_refl _, Nat.zero_le _, rfl, Below.refl _ _⟩
  have HE0 : Hid ((⟨#[]⟩ : ByteArray) = bs ((s.drop 0).take (0 - 0))) := rfl
  generalize bs B = sB at *
  generalize bs s = sS at *
  clear zB zs hB hs
  go_enter Try.func27, Try.ntmps27
  go_wp2
  go_loopw [5, 6, 7] (fun a q y wr => ∃ (l : List Pz) (v : Value) (told at_ : Nat) (pl : ByteArray), v = a ∧ q = .string pl ∧ y = .int .i64 (at_ : Int) ∧ Hid (pl = bs ((s.drop told).take (at_ - told))) ∧ Hid (MS B s w.heap.size 0 w l v told at_ wr)) (fun _ _ y _ => s.length - (intOf y).toNat)
  case atStart => exact ⟨_, _, 0, 0, _, rfl, rfl, rfl, HE0, T0⟩
  case round =>
    obtain ⟨l, v, told, at_, pl, rfl, rfl, rfl, hP, hT⟩ := hrel
    clear T0 HE0
    have z0 := HS.out.1
    have z1 := HS.out.2
    have hm := hT.out.most
    have hle := hT.out.le
    have zz1 : w.heap.size ≤ wr.heap.size := hT.out.all.size
    have HZ1 := Lib.hid zz1
    have hpl : pl.size = at_ - told := by rw [hP.out, bs_size, List.length_take, List.length_drop]; omega
    have D4 : Hid (∀ W v' (l' : List Pz) (x : Pz), OwnZ W w.heap.size v' l' → l'.length ≤ 4200 → w.heap.size ≤ W.heap.size → ∃ g cap w', (Builtin.append_ #[59, 59] 59 #[v', .slice (some ⟨W.heap.size, 0, none⟩) 1 1]).run Try.prog (W.alloc (.cells #[.complex .f64 (FB (x.p : Int)) (FB (x.n : Int)), .string (bs x.t)] 76)) = .ok (.slice (some ⟨g, 0, none⟩) (l'.length + 1) cap) w' ∧
          OwnZ w' w.heap.size (.slice (some ⟨g, 0, none⟩) (l'.length + 1) cap) (l' ++ [x]) ∧ Below w.heap.size W w') := fun W v' l' x h1 h0 h2 => app_z x h1 h2 (by omega)
    by_cases hlt : at_ < s.length
    · have yk : (at_ : Int) < (sS.size : Int) := by omega
      have D1 := C1.out wr at_
      obtain ⟨fp, fn, hf⟩ : ∃ fp fn, F B s at_ = (fp, fn) := ⟨_, _, rfl⟩
      rw [hf] at D1
      have HD1 := Lib.hid D1
      have HF := Lib.hid hf
      have HL := Lib.hid (And.intro hlt hle)
      clear D1 hf zz1
      by_cases hn : fn = 0
      · subst hn
        have w5 : IntKind.i64.wrap ((at_ : Int) + 1) = (at_ : Int) + 1 := IntWalk.i64_in _ (by omega)
        have y1 : (0 : Int) ≤ (at_ : Int) := by omega
        have y2 : (at_ : Int) + 1 ≤ (sS.size : Int) := by omega
        have y3 : (at_ : Int) ≤ (at_ : Int) + 1 := by omega
        have e5 : ((at_ : Int) + 1).toNat = at_ + 1 := by omega
        have hcat : pl ++ sS.extract at_ (at_ + 1) = bs ((s.drop told).take (at_ + 1 - told)) := by
          rw [hP.out, HX.out, bs_append, take_more s told at_ hle hlt]
        have hsz : (sS.extract at_ (at_ + 1)).size = 1 := by rw [HX.out, bs_size, List.length_take, List.length_drop]; omega
        have hbig : ¬ (9223372036854775807 < pl.size + 1) := by omega
        generalize hQ : bs ((s.drop told).take (at_ + 1 - told)) = pl2 at hcat
        have HQ := Lib.hid hQ
        clear hlt hle hm z0 z1 D4 hQ hpl
        go_wp2_with fail
        refine HD1.out.mono ?_
        rintro e w3 ⟨rfl, B3⟩
        have T3 : Hid (MS B s w.heap.size 0 w l v told (at_ + 1) w3) := by
          have T := hT.out.below HZ1.out B3
          have h1 := HL.out
          exact ⟨T.own, T.few, by omega, by omega, by rw [← T.eq, mk_none h1.1 (by rw [HF.out])], T.all⟩
        clear B3 HD1 hT hP
        go_wp2
        go_roundw
        case rel => exact ⟨_, _, told, at_ + 1, _, rfl, rfl, by go_num, HQ.out.symm, T3⟩
        case measure => have := HL.out; simp [intOf]; omega
      · have hpos := F_ok B s at_ hlt
        rw [HF.out] at hpos
        have hend : at_ + fn ≤ s.length := by
          rcases hpos with h | h
          · exact absurd h hn
          · exact h.2.1
        have w5 : IntKind.i64.wrap ((at_ : Int) + (fn : Int)) = (at_ : Int) + (fn : Int) := IntWalk.i64_in _ (by omega)
        have tn2 : ¬ (fn : Int) = 0 := by omega
        have tn : ((fn : Int) == 0) = false := by simp; omega
        have few := hT.out.few
        have f1 : floatOfInt .f64 (fp : Int) = FB (fp : Int) := rfl
        have f2 : floatOfInt .f64 (fn : Int) = FB (fn : Int) := rfl
        have hr1 := rw_len ((s.drop told).take (at_ - told))
        rw [List.length_take, List.length_drop] at hr1
        have A2 : Hid (∀ W v', OwnZ W w.heap.size v' (l ++ rw' ((s.drop told).take (at_ - told))) → w.heap.size ≤ W.heap.size → ∃ g cap w', (Builtin.append_ #[59, 59] 59 #[v', .slice (some ⟨W.heap.size, 0, none⟩) 1 1]).run Try.prog (W.alloc (.cells #[.complex .f64 (FB (fp : Int)) (FB (fn : Int)), .string ⟨#[]⟩] 76)) = .ok (.slice (some ⟨g, 0, none⟩) ((l ++ rw' ((s.drop told).take (at_ - told))).length + 1) cap) w' ∧
          OwnZ w' w.heap.size (.slice (some ⟨g, 0, none⟩) ((l ++ rw' ((s.drop told).take (at_ - told))).length + 1) cap) (l ++ rw' ((s.drop told).take (at_ - told)) ++ [⟨fp, fn, []⟩]) ∧ Below w.heap.size W w') := fun W v' h1 h2 => D4.out W v' _ ⟨fp, fn, []⟩ h1 (by rw [List.length_append]; omega) h2
        have A1 : Hid (∀ W v', OwnZ W w.heap.size v' l → w.heap.size ≤ W.heap.size → ∃ g cap w', (Builtin.append_ #[59, 59] 59 #[v', .slice (some ⟨W.heap.size, 0, none⟩) 1 1]).run Try.prog (W.alloc (.cells #[.complex .f64 0 0, .string pl] 76)) = .ok (.slice (some ⟨g, 0, none⟩) (l.length + 1) cap) w' ∧
          OwnZ w' w.heap.size (.slice (some ⟨g, 0, none⟩) (l.length + 1) cap) (l ++ [⟨0, 0, (s.drop told).take (at_ - told)⟩]) ∧ Below w.heap.size W w') := fun W v' h1 h2 => by
          have := D4.out W v' l ⟨0, 0, (s.drop told).take (at_ - told)⟩ h1 (by omega) h2
          rw [show FB (((⟨0, 0, (s.drop told).take (at_ - told)⟩ : Pz).p : Nat) : Int) = 0 from FB_0, show bs (⟨0, 0, (s.drop told).take (at_ - told)⟩ : Pz).t = pl from hP.out.symm] at this
          exact this
        have HQ : Hid ((l ++ rw' ((s.drop told).take (at_ - told)) ++ [(⟨fp, fn, []⟩ : Pz)]).length ≤ at_ + fn) := by
          show _ ≤ _
          rw [List.length_append, List.length_append, List.length_singleton]; omega
        have HE : Hid ((l ++ rw' ((s.drop told).take (at_ - told)) ++ [(⟨fp, fn, []⟩ : Pz)]) ++ mk (F B s) s (at_ + fn) (at_ + fn) = made B s) := by
          show _ = _
          rw [← hT.out.eq, mk_copy hlt (by rw [HF.out]; exact hn), HF.out]
          simp [List.append_assoc]
        have HEND := Lib.hid (And.intro hend hn)
        have hz2 : (at_ - told : Nat) ≤ 4099 := by omega
        have HP2 : Hid ((⟨#[]⟩ : ByteArray) = bs ((s.drop (at_ + fn)).take (at_ + fn - (at_ + fn)))) := by
          show _ = _
          rw [Nat.sub_self]; rfl
        clear hpos hend few hr1 D4
        generalize FB (fp : Int) = P at *
        generalize FB (fn : Int) = N at *
        by_cases hp0 : at_ = told
        · have e1 : rw' ((s.drop told).take (at_ - told)) = [] := by rw [hp0, Nat.sub_self]; rfl
          rw [e1, List.append_nil] at A2 HQ HE
          have t3 : (pl.size : Int) = 0 := by omega
          have t4 : ¬ (0 : Int) < (pl.size : Int) := by omega
          clear A1 e1 hp0 hlt hle hm z0 z1 hn hpl hz2 hP
          go_wp2_with fail
          refine HD1.out.mono ?_
          rintro e w3 ⟨rfl, B3⟩
          have T3 := Lib.hid (hT.out.below HZ1.out B3)
          have Z3 := Lib.hid (Nat.le_trans HZ1.out B3.size)
          clear B3 HD1 hT
          obtain ⟨g, cap, w6, hr, O6, L6⟩ := A2.out w3 v T3.out.own Z3.out
          have T6 : Hid (MS B s w.heap.size 0 w (l ++ [⟨fp, fn, []⟩]) (.slice (some ⟨g, 0, none⟩) (l.length + 1) cap) (at_ + fn) (at_ + fn) w6) :=
            ⟨O6, HQ.out, Nat.le_refl _, HEND.out.1, HE.out, T3.out.all.trans L6⟩
          clear O6 L6 A2 HQ HE T3
          go_wp2_with (at_builtin; refine wpList_append_run rfl (.tmp 48) (.tmp 55) 59 59 rfl _ _ _ _ rfl rfl hr ?_)
          clear hr
          go_wp2
          go_roundw
          case rel => exact ⟨_, _, at_ + fn, at_ + fn, _, rfl, by rw [show pl = ⟨#[]⟩ from by (apply ByteArray.ext; apply Array.eq_empty_of_size_eq_zero; show pl.size = 0; omega)], by go_num, HP2, T6⟩
          case measure => have h1 := HL.out; have h2 := HEND.out; simp [intOf]; omega
        · have e1 : rw' ((s.drop told).take (at_ - told)) = [⟨0, 0, (s.drop told).take (at_ - told)⟩] := by
            unfold rw'
            rw [if_neg (by intro h; have := congrArg List.length h; rw [List.length_take, List.length_drop] at this; simp at this; omega)]
          rw [e1] at A2 HQ HE
          have t3 : (0 : Int) < (pl.size : Int) := by omega
          clear e1 hp0 hlt hle hm z0 z1 hn hpl hz2 hP
          generalize (s.drop told).take (at_ - told) = tt at *
          go_wp2_with fail
          refine HD1.out.mono ?_
          rintro e w3 ⟨rfl, B3⟩
          have T3 := Lib.hid (hT.out.below HZ1.out B3)
          have Z3 := Lib.hid (Nat.le_trans HZ1.out B3.size)
          clear B3 HD1 hT
          obtain ⟨g1, cap1, w4, hr1, O4, L4⟩ := A1.out w3 v T3.out.own Z3.out
          have Z4 := Nat.le_trans Z3.out L4.size
          obtain ⟨g, cap, w6, hr, O6, L6⟩ := A2.out w4 _ O4 Z4
          have T6 : Hid (MS B s w.heap.size 0 w (l ++ [⟨0, 0, tt⟩] ++ [⟨fp, fn, []⟩]) (.slice (some ⟨g, 0, none⟩) ((l ++ [(⟨0, 0, tt⟩ : Pz)]).length + 1) cap) (at_ + fn) (at_ + fn) w6) :=
            ⟨O6, HQ.out, Nat.le_refl _, HEND.out.1, HE.out, (T3.out.all.trans L4).trans L6⟩
          generalize (l ++ [(⟨0, 0, tt⟩ : Pz)]).length + 1 = ln at *
          clear O6 L6 A2 HQ HE T3 O4 L4 Z4 A1
          go_wp2_with (at_builtin; first | refine wpList_append_run rfl (.tmp 43) (.tmp 46) 59 59 rfl _ _ _ _ rfl rfl hr1 ?_ | refine wpList_append_run rfl (.tmp 48) (.tmp 55) 59 59 rfl _ _ _ _ rfl rfl hr ?_)
          clear hr1 hr
          go_wp2
          go_roundw
          case rel => exact ⟨_, _, at_ + fn, at_ + fn, _, rfl, rfl, by go_num, HP2, T6⟩
          case measure => have h1 := HL.out; have h2 := HEND.out; simp [intOf]; omega
    · have hk : at_ = s.length := by omega
      subst hk
      have yk : (sS.size : Int) ≤ ((s.length : Nat) : Int) := by omega
      have few := hT.out.few
      have et : (s.drop told).take (s.length - told) = s.drop told := List.take_of_length_le (by rw [List.length_drop]; omega)
      have hP' := hP.out
      rw [et] at hP'
      have HE : Hid (l ++ rw' (s.drop told) = made B s) := by
        show _ = _
        rw [← hT.out.eq, mk_end (Nat.le_refl _)]
      have A1 : Hid (∀ W v', OwnZ W w.heap.size v' l → w.heap.size ≤ W.heap.size → ∃ g cap w', (Builtin.append_ #[59, 59] 59 #[v', .slice (some ⟨W.heap.size, 0, none⟩) 1 1]).run Try.prog (W.alloc (.cells #[.complex .f64 0 0, .string pl] 76)) = .ok (.slice (some ⟨g, 0, none⟩) (l.length + 1) cap) w' ∧
        OwnZ w' w.heap.size (.slice (some ⟨g, 0, none⟩) (l.length + 1) cap) (l ++ [⟨0, 0, s.drop told⟩]) ∧ Below w.heap.size W w') := fun W v' h1 h2 => by
        have := D4.out W v' l ⟨0, 0, s.drop told⟩ h1 (by omega) h2
        rw [show FB (((⟨0, 0, s.drop told⟩ : Pz).p : Nat) : Int) = 0 from FB_0, show bs (⟨0, 0, s.drop told⟩ : Pz).t = pl from hP'.symm] at this
        exact this
      clear D4 C1 et hP'
      by_cases hp0 : s.length = told
      · have e1 : rw' (s.drop told) = [] := by rw [← hp0, List.drop_length]; rfl
        rw [e1, List.append_nil] at HE
        have HO := Lib.hid hT.out.own
        have HA := Lib.hid hT.out.all
        rw [HE.out] at HO
        have t3 : (pl.size : Int) = 0 := by omega
        have t4 : ¬ (0 : Int) < (pl.size : Int) := by omega
        clear A1 e1 hp0 hle hm z0 z1 hpl hP hT few zz1 HZ1
        go_wp2
        go_ret
        exact ⟨_, rfl, HO.out, HA.out⟩
      · have e1 : rw' (s.drop told) = [⟨0, 0, s.drop told⟩] := by
          unfold rw'
          rw [if_neg (by intro h; have := congrArg List.length h; rw [List.length_drop] at this; simp at this; omega)]
        rw [e1] at HE
        obtain ⟨g, cap, w6, hr, O6, L6⟩ := A1.out wr v hT.out.own zz1
        rw [HE.out] at O6
        have HO := Lib.hid O6
        have HA := Lib.hid (hT.out.all.trans L6)
        have t3 : (0 : Int) < (pl.size : Int) := by omega
        clear A1 e1 hp0 hle hm z0 z1 hpl hP hT few zz1 HZ1 O6 L6
        go_wp2_with (at_builtin; refine wpList_append_run rfl (.tmp 63) (.tmp 66) 59 59 rfl _ _ _ _ rfl rfl hr ?_)
        go_wp2
        go_ret
        exact ⟨_, rfl, HO.out, HA.out⟩
end Go.Proofs.Ytekeaoolodmdaaa
