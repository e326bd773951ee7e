import Derived.Test.YtekeaoolodmdaaaEB
import Derived.Test.YtekeaoolodmdaaaE7
import Derived.Test.YtekeaoolodmdaaaMX7m
/- The pieces of a text. -/
namespace Go.Proofs.Ytekeaoolodmdaaa
set_option maxRecDepth 100000
open Go.RowKit
/- what is found of a base, from a place of a text -/
def F (B s : List UInt8) (k : Nat) : Nat × Nat := Mt.fnd (Mt.sAt (bs B)) B.length (Mt.sAt (bs s)) s.length (k : Int)
theorem sAt_bs (l : List UInt8) (j : Nat) : Mt.sAt (bs l) j = l.getD j 0 := by
  unfold Mt.sAt bs
  rw [List.toList_toArray]
theorem F_ok (B s : List UInt8) : Fok B s (F B s) := by
  intro k hk
  unfold F
  rcases Mt.fnd_there (Mt.sAt (bs B)) B.length (Mt.sAt (bs s)) s.length (k : Int) with h | ⟨k', hk', h1, h2, h3, h4, -⟩
  · rw [h]; exact Or.inl rfl
  · obtain rfl : k = k' := by omega
    refine Or.inr ⟨h2, h3, ?_⟩
    generalize Mt.fnd (Mt.sAt (bs B)) B.length (Mt.sAt (bs s)) s.length (k : Int) = r at *
    apply List.ext_getElem
    · rw [List.length_take, List.length_take, List.length_drop, List.length_drop]; omega
    · intro j g1 g2
      rw [List.length_take, List.length_drop] at g1
      have := h4 j (by omega)
      rw [sAt_bs, sAt_bs, List.getD_eq_getElem?_getD, List.getD_eq_getElem?_getD, List.getElem?_eq_getElem (by omega), List.getElem?_eq_getElem (by omega)] at this
      rw [List.getElem_take, List.getElem_take, List.getElem_drop, List.getElem_drop]
      exact this
theorem rw_len (t : List UInt8) : (rw' t).length ≤ t.length := by
  unfold rw'
  split
  · simp
  · rename_i h
    cases t with
    | nil => exact absurd rfl h
    | cons => simp
def made (B s : List UInt8) : List Pz := mk (F B s) s 0 0
/- where the loop stands -/
structure MS (B s : List UInt8) (z p : Nat) (w1 : World) (l : List Pz) (v : Value) (told at_ : Nat) (wr : World) : Prop where
  own : OwnZ wr z v l
  few : l.length ≤ told
  le : told ≤ at_
  most : at_ ≤ s.length
  eq : l ++ mk (F B s) s at_ told = made B s
  all : Below z w1 wr
theorem MS.below {B s : List UInt8} {z p : Nat} {w1 : World} {l : List Pz} {v : Value} {told at_ : Nat} {wr w' : World} (h : MS B s z p w1 l v told at_ wr) (hz : z ≤ wr.heap.size) (hb : Below wr.heap.size wr w') : MS B s z p w1 l v told at_ w' :=
  ⟨h.own.all hb, h.few, h.le, h.most, h.eq, h.all.trans (hb.mono hz)⟩
set_option maxHeartbeats 4000000 in
theorem make_any (B s : List UInt8) (w : World) (hB : B.length ≤ 4099) (hs : s.length ≤ 4099) :
    Calls Try.prog 35 #[.string (bs B), .string (bs s)] w fun e w' => ∃ v, e = .returned v ∧ OwnZ w' w.heap.size v (made B s) ∧ Below w.heap.size w w' := by
  have zB := bs_size B
  have zs := bs_size s
  have C0 : Hid (∀ W : World, _) := Lib.hid (fun W => Mt.new_any (bs B) W (by omega) (fun W => clone_any (bs B) W (by omega)))
  have C1 : Hid (∀ (W : World) b p (k : Nat), Mt.Ix W b p (bs B) → Calls Try.prog 50 #[.pointer (some ⟨p, 0, none⟩), .string (bs s), .int .i64 (k : Int)] W fun e w' => e = .returned (.tuple #[.int .i64 ((F B s k).1 : Int), .int .i64 ((F B s k).2 : Int)]) ∧ Below W.heap.size W w') := fun W b p k h => by
    have := Mt.find_any h (bs s) (k : Int) (by omega) (by omega)
    rw [zB, zs] at this
    exact this
  have HX : Hid (∀ a b, (bs s).extract a b = bs ((s.drop a).take (b - a))) := bs_extract s
  have HX2 : Hid (∀ a, (bs s).extract a (bs s).size = bs (s.drop a)) := bs_drop s
  have HS := Lib.hid (And.intro zs hs)
  have t1 : ((bs B).size : Int) ≤ 4099 := by omega
  have t2 : ((bs s).size : Int) ≤ 4099 := by omega
  generalize bs B = sB at *
  generalize bs s = sS at *
  clear zB zs hB hs
  go_enter Try.func35, Try.ntmps35
  go_wp2_with fail
  refine (C0.out _).mono ?_
  rintro e w1 ⟨p, b, rfl, IX, B1⟩
  have HIX := Lib.hid IX
  have HB1 := Lib.hid B1
  have T0 : Hid (MS B s w1.heap.size p w1 [] (.slice none 0 0) 0 0 w1) := ⟨OwnZ.nil _ _, by simp, Nat.le_refl _, Nat.zero_le _, rfl, Below.refl _ _⟩
  clear IX B1 C0
  go_wp2
  go_loopw [6, 7, 8] (fun a x y wr => ∃ (l : List Pz) (v : Value) (told at_ : Nat), v = a ∧ x = .int .i64 (told : Int) ∧ y = .int .i64 (at_ : Int) ∧ Hid (MS B s w1.heap.size p w1 l v told at_ wr)) (fun _ _ y _ => s.length - (intOf y).toNat)
  case atStart => exact ⟨_, _, 0, 0, rfl, rfl, rfl, T0⟩
  case round =>
    obtain ⟨l, v, told, at_, rfl, rfl, rfl, hT⟩ := hrel
    clear T0
    have z0 := HS.out.1
    have z1 := HS.out.2
    have hm := hT.out.most
    have hle := hT.out.le
    have zz1 : w1.heap.size ≤ wr.heap.size := hT.out.all.size
    have HZ1 := Lib.hid zz1
    by_cases hlt : at_ < s.length
    · have yk : (at_ : Int) < (sS.size : Int) := by omega
      have D1 := C1.out wr b p at_ (HIX.out.below (Nat.le_refl _) hT.out.all)
      obtain ⟨fp, fn, hf⟩ : ∃ fp fn, F B s at_ = (fp, fn) := ⟨_, _, rfl⟩
      rw [hf] at D1
      have HD1 := Lib.hid D1
      have HF := Lib.hid hf
      have HL := Lib.hid (And.intro hlt hle)
      clear D1 hf zz1
      by_cases hn : fn = 0
      · subst hn
        have w5 : IntKind.i64.wrap ((at_ : Int) + 1) = (at_ : Int) + 1 := IntWalk.i64_in _ (by omega)
        clear hlt hle hm z0 z1
        go_wp2_with fail
        refine HD1.out.mono ?_
        rintro e w3 ⟨rfl, B3⟩
        have T3 : Hid (MS B s w1.heap.size p w1 l v told (at_ + 1) w3) := by
          have T := hT.out.below HZ1.out B3
          have h1 := HL.out
          exact ⟨T.own, T.few, by omega, by omega, by rw [← T.eq, mk_none h1.1 (by rw [HF.out])], T.all⟩
        clear B3 HD1 hT
        go_wp2
        go_roundw
        case rel => exact ⟨_, _, told, at_ + 1, rfl, rfl, by go_num, T3⟩
        case measure => have := HL.out; simp [intOf]; omega
      · have hpos := F_ok B s at_ hlt
        rw [HF.out] at hpos
        have hend : at_ + fn ≤ s.length := by
          rcases hpos with h | h
          · exact absurd h hn
          · exact h.2.1
        have w5 : IntKind.i64.wrap ((at_ : Int) + (fn : Int)) = (at_ : Int) + (fn : Int) := IntWalk.i64_in _ (by omega)
        have tn : ((fn : Int) == 0) = false := by simp; omega
        have tn2 : ¬ (fn : Int) = 0 := by omega
        have y1 : (0 : Int) ≤ (told : Int) := by omega
        have y2 : (told : Int) ≤ (at_ : Int) := by omega
        have y3 : (at_ : Int) ≤ (sS.size : Int) := by omega
        have few := hT.out.few
        have D2 : Hid (∀ W, OwnZ W w1.heap.size v l → w1.heap.size ≤ W.heap.size → Calls Try.prog 51 #[v, .string (sS.extract told at_)] W fun e w' => ∃ v', e = .returned v' ∧ OwnZ w' w1.heap.size v' (l ++ rw' ((s.drop told).take (at_ - told))) ∧ Below w1.heap.size W w') := fun W h1 h2 => by
          rw [HX.out]
          exact addbytes_any _ h1 h2 (by omega) (by rw [List.length_take, List.length_drop]; omega)
        have D3 : Hid (∀ W, _) := Lib.hid (fun W => copyof_any fp fn W)
        unfold pv cpv at D3
        dsimp only at D3
        have hr1 := rw_len ((s.drop told).take (at_ - told))
        rw [List.length_take, List.length_drop] at hr1
        have D4 : Hid (∀ W v', OwnZ W w1.heap.size v' (l ++ rw' ((s.drop told).take (at_ - told))) → w1.heap.size ≤ W.heap.size → ∃ g cap w', (Builtin.append_ #[59, 59] 59 #[v', .slice (some ⟨W.heap.size, 0, none⟩) 1 1]).run Try.prog (W.alloc (.cells #[.complex .f64 (FB (fp : Int)) (FB (fn : Int)), .string (bs [])] 76)) = .ok (.slice (some ⟨g, 0, none⟩) ((l ++ rw' ((s.drop told).take (at_ - told))).length + 1) cap) w' ∧
          OwnZ w' w1.heap.size (.slice (some ⟨g, 0, none⟩) ((l ++ rw' ((s.drop told).take (at_ - told))).length + 1) cap) (l ++ rw' ((s.drop told).take (at_ - told)) ++ [⟨fp, fn, []⟩]) ∧ Below w1.heap.size W w') := fun W v' h1 h2 => app_z ⟨fp, fn, []⟩ h1 h2 (by rw [List.length_append]; omega)
        generalize FB (fp : Int) = P at *
        generalize FB (fn : Int) = N at *
        generalize bs [] = se at *
        have HQ : Hid ((l ++ rw' ((s.drop told).take (at_ - told)) ++ [(⟨fp, fn, []⟩ : Pz)]).length ≤ at_ + fn) := by
          show _ ≤ _
          rw [List.length_append, List.length_append, List.length_singleton]; omega
        have HE : Hid ((l ++ rw' ((s.drop told).take (at_ - told)) ++ [(⟨fp, fn, []⟩ : Pz)]) ++ mk (F B s) s (at_ + fn) (at_ + fn) = made B s) := by
          show _ = _
          rw [← hT.out.eq, mk_copy hlt (by rw [HF.out]; exact hn), HF.out]
          simp [List.append_assoc]
        have HEND := Lib.hid (And.intro hend hn)
        clear hpos hend few hr1 hlt hle hm z0 z1 hn
        go_wp2_with fail
        refine HD1.out.mono ?_
        rintro e w3 ⟨rfl, B3⟩
        have T3 := Lib.hid (hT.out.below HZ1.out B3)
        have Z3 := Lib.hid (Nat.le_trans HZ1.out B3.size)
        clear B3 HD1 hT
        go_wp2_with fail
        refine (D2.out _ T3.out.own Z3.out).mono ?_
        rintro e w4 ⟨v4, rfl, O4, B4⟩
        have A4 := Lib.hid (And.intro O4 (And.intro (T3.out.all.trans B4) (Nat.le_trans Z3.out B4.size)))
        clear O4 B4 D2 T3 Z3
        go_wp2_with fail
        refine (D3.out _).mono ?_
        rintro e w5 ⟨rfl, B5⟩
        have A5 := Lib.hid (And.intro (A4.out.1.all B5) (And.intro (A4.out.2.1.trans (B5.mono A4.out.2.2)) (Nat.le_trans A4.out.2.2 B5.size)))
        clear B5 D3 A4
        obtain ⟨g, cap, w6, hr, O6, L6⟩ := D4.out w5 v4 A5.out.1 A5.out.2.2
        have T6 : Hid (MS B s w1.heap.size p w1 (l ++ rw' ((s.drop told).take (at_ - told)) ++ [⟨fp, fn, []⟩]) (.slice (some ⟨g, 0, none⟩) ((l ++ rw' ((s.drop told).take (at_ - told))).length + 1) cap) (at_ + fn) (at_ + fn) w6) :=
          ⟨O6, HQ.out, Nat.le_refl _, HEND.out.1, HE.out, A5.out.2.1.trans L6⟩
        generalize (l ++ rw' ((s.drop told).take (at_ - told))).length + 1 = ln at *
        clear O6 L6 D4 A5 HQ HE
        go_wp2_with (at_builtin; refine wpList_append_run rfl (.tmp 41) (.tmp 45) 59 59 rfl _ _ _ _ rfl rfl hr ?_)
        clear hr
        go_wp2
        go_roundw
        case rel => exact ⟨_, _, at_ + fn, at_ + fn, rfl, by go_num, by go_num, T6⟩
        case measure => have h1 := HL.out; have h2 := HEND.out; simp [intOf]; omega
    · have hk : at_ = s.length := by omega
      subst hk
      have yk : (sS.size : Int) ≤ ((s.length : Nat) : Int) := by omega
      have y1 : (0 : Int) ≤ (told : Int) := by omega
      have y2 : (told : Int) ≤ (sS.size : Int) := by omega
      have few := hT.out.few
      have D2 : Hid (∀ W, OwnZ W w1.heap.size v l → w1.heap.size ≤ W.heap.size → Calls Try.prog 51 #[v, .string (sS.extract told sS.size)] W fun e w' => ∃ v', e = .returned v' ∧ OwnZ w' w1.heap.size v' (l ++ rw' (s.drop told)) ∧ Below w1.heap.size W w') := fun W h1 h2 => by
        rw [HX2.out]
        exact addbytes_any _ h1 h2 (by omega) (by rw [List.length_drop]; omega)
      have HE : Hid (l ++ rw' (s.drop told) = made B s) := by
        show _ = _
        rw [← hT.out.eq, mk_end (Nat.le_refl _)]
      rw [HE.out] at D2
      have HBB := Lib.hid HB1.out.size
      clear HX few hlt hle hm z0 z1 zz1
      go_wp2_with fail
      refine (D2.out _ hT.out.own HZ1.out).mono ?_
      rintro e w4 ⟨v4, rfl, O4, B4⟩
      have HO := Lib.hid (O4.mono HBB.out)
      have HL4 := Lib.hid (HB1.out.trans ((hT.out.all.trans B4).mono HBB.out))
      clear O4 B4 D2 hT
      go_wp2
      go_ret
      exact ⟨_, rfl, HO.out, HL4.out⟩
end Go.Proofs.Ytekeaoolodmdaaa
