import Derived.Test.YtekeaoolodmdaaaMXw
import Derived.Deep.Cut
import Derived.Deep.QuietTactic
import Derived.BigQuiet
import Derived.Deep.RegionHeld3
import Derived.Carry
/- How many bytes two texts both begin with. -/
namespace Go.Proofs.Ytekeaoolodmdaaa.Mt
set_option maxRecDepth 100000
open Go.RowKit
set_option maxHeartbeats 2000000 in
theorem common_any (a b : ByteArray) (f g : Nat → UInt8) (i k : Nat) (w : World) (ha : a.size ≤ 1000000) (hb : b.size ≤ 1000000) (hf : ∀ j, j < a.size → sAt a j = f (i + j)) (hg : ∀ j, j < b.size → sAt b j = g (k + j)) :
    Calls Try.prog 67 #[.string a, .string b] w fun e w' => e = .returned (.int .i64 ((lkF f g i k (min a.size b.size) : Nat) : Int)) ∧ Below w.heap.size w w' := by
  have IX : Hid (∀ j : Nat, j < a.size → ∀ w : World, (Instr.index 9 (.string a) (.int .i64 (j : Int))).run Try.prog w = .ok (.int .u8 ((f (i + j)).toNat : Int)) w) := fun j hj w => by
    rw [← hf j hj]; exact idx_str a j hj w
  have IY : Hid (∀ j : Nat, j < b.size → ∀ w : World, (Instr.index 9 (.string b) (.int .i64 (j : Int))).run Try.prog w = .ok (.int .u8 ((g (k + j)).toNat : Int)) w) := fun j hj w => by
    rw [← hg j hj]; exact idx_str b j hj w
  have HA := Lib.hid (show a.size ≤ 1000000 from ha)
  have HB := Lib.hid (show b.size ≤ 1000000 from hb)
  by_cases hc : b.size < a.size
  · have en : min a.size b.size = b.size := by omega
    rw [en]
    have HE : Hid (b.size ≤ a.size ∧ b.size ≤ b.size) := by show _ ∧ _; omega
    clear hf hg ha hb en
    go_enter Try.func67, Try.ntmps67
    go_wp2
    clear hc
    go_loopw [13] (fun q wr => ∃ q' : Nat, q = .int .i64 (q' : Int) ∧ q' ≤ b.size ∧ Hid (∀ j, j < q' → f (i + j) = g (k + j)) ∧ Hid (Below w.heap.size w wr)) (fun q _ => b.size - (intOf q).toNat)
    case atStart => exact ⟨0, rfl, Nat.zero_le _, fun j hj => absurd hj (Nat.not_lt_zero j), Below.refl _ _⟩
    case round =>
      obtain ⟨q, rfl, hq, hE, hL⟩ := hrel
      by_cases hlt : q < b.size
      · have z := HE.out
        have i1 := IX.out q (by omega)
        have i2 := IY.out q (by omega)
        have yk : (q : Int) < (b.size : Int) := by omega
        have w1 : IntKind.i64.wrap ((q : Int) + 1) = (q : Int) + 1 := IntWalk.i64_in _ (by have := HA.out; have := HB.out; omega)
        clear z
        obtain ⟨x, hx⟩ : ∃ x, x = (f (i + q)).toNat := ⟨_, rfl⟩
        obtain ⟨y, hy⟩ : ∃ y, y = (g (k + q)).toNat := ⟨_, rfl⟩
        rw [← hx] at i1
        rw [← hy] at i2
        by_cases he : f (i + q) = g (k + q)
        · have t : y = x := by rw [hx, hy, he]
          rw [t] at i2
          have HEQ := Lib.hid he
          clear t hx hy he
          go_upto_region 5 with fail
          go_quiet (fail)
          have L : Hid (Below w.heap.size w (wr.drewN nq)) := below_drewN hL.out nq
          go_wp2
          go_roundw
          case rel =>
            refine ⟨q + 1, by go_num, by omega, fun j hj => ?_, L⟩
            by_cases c : j < q
            · exact hE.out j c
            · have e : j = q := by omega
              rw [e]
              exact HEQ.out
          case measure => simp [intOf]; omega
        · have t2 : ¬ (x = y) := by intro h; rw [hx, hy] at h; exact he (UInt8.toNat_inj.1 h)
          have t3 : ((x : Int) != (y : Int)) = true := by simp; omega
          have RS : lkF f g i k b.size = q := lkF_is (by omega) hE.out (.inr he)
          clear hx hy he
          go_upto_region 5 with fail
          go_quiet (fail)
          have L : Hid (Below w.heap.size w (wr.drewN nq)) := below_drewN hL.out nq
          go_wp2
          go_ret
          exact ⟨by rw [RS]; rfl, L.out⟩
      · have e : q = b.size := by omega
        subst e
        have RS : lkF f g i k b.size = b.size := lkF_is (Nat.le_refl _) hE.out (.inl rfl)
        go_wp2
        go_ret
        exact ⟨by rw [RS]; rfl, hL.out⟩
  · have en : min a.size b.size = a.size := by omega
    rw [en]
    have HE : Hid (a.size ≤ a.size ∧ a.size ≤ b.size) := by show _ ∧ _; omega
    clear hf hg ha hb en
    go_enter Try.func67, Try.ntmps67
    go_wp2
    clear hc
    go_loopw [13] (fun q wr => ∃ q' : Nat, q = .int .i64 (q' : Int) ∧ q' ≤ a.size ∧ Hid (∀ j, j < q' → f (i + j) = g (k + j)) ∧ Hid (Below w.heap.size w wr)) (fun q _ => a.size - (intOf q).toNat)
    case atStart => exact ⟨0, rfl, Nat.zero_le _, fun j hj => absurd hj (Nat.not_lt_zero j), Below.refl _ _⟩
    case round =>
      obtain ⟨q, rfl, hq, hE, hL⟩ := hrel
      by_cases hlt : q < a.size
      · have z := HE.out
        have i1 := IX.out q (by omega)
        have i2 := IY.out q (by omega)
        have yk : (q : Int) < (a.size : Int) := by omega
        have w1 : IntKind.i64.wrap ((q : Int) + 1) = (q : Int) + 1 := IntWalk.i64_in _ (by have := HA.out; have := HB.out; omega)
        clear z
        obtain ⟨x, hx⟩ : ∃ x, x = (f (i + q)).toNat := ⟨_, rfl⟩
        obtain ⟨y, hy⟩ : ∃ y, y = (g (k + q)).toNat := ⟨_, rfl⟩
        rw [← hx] at i1
        rw [← hy] at i2
        by_cases he : f (i + q) = g (k + q)
        · have t : y = x := by rw [hx, hy, he]
          rw [t] at i2
          have HEQ := Lib.hid he
          clear t hx hy he
          go_upto_region 5 with fail
          go_quiet (fail)
          have L : Hid (Below w.heap.size w (wr.drewN nq)) := below_drewN hL.out nq
          go_wp2
          go_roundw
          case rel =>
            refine ⟨q + 1, by go_num, by omega, fun j hj => ?_, L⟩
            by_cases c : j < q
            · exact hE.out j c
            · have e : j = q := by omega
              rw [e]
              exact HEQ.out
          case measure => simp [intOf]; omega
        · have t2 : ¬ (x = y) := by intro h; rw [hx, hy] at h; exact he (UInt8.toNat_inj.1 h)
          have t3 : ((x : Int) != (y : Int)) = true := by simp; omega
          have RS : lkF f g i k a.size = q := lkF_is (by omega) hE.out (.inr he)
          clear hx hy he
          go_upto_region 5 with fail
          go_quiet (fail)
          have L : Hid (Below w.heap.size w (wr.drewN nq)) := below_drewN hL.out nq
          go_wp2
          go_ret
          exact ⟨by rw [RS]; rfl, L.out⟩
      · have e : q = a.size := by omega
        subst e
        have RS : lkF f g i k a.size = a.size := lkF_is (Nat.le_refl _) hE.out (.inl rfl)
        go_wp2
        go_ret
        exact ⟨by rw [RS]; rfl, hL.out⟩
end Go.Proofs.Ytekeaoolodmdaaa.Mt
/- Base, the places as the index keeps them. -/
namespace Go.Proofs.Ytekeaoolodmdaaa.Mt
set_option maxRecDepth 100000
open Go.RowKit
theorem tries_nil (s : ByteArray) (at_ : Int) (w : World) : Calls Try.prog 66 #[.pointer none, .string s, .int .i64 at_] w fun e w' => e = .returned (.slice none 0 0) ∧ w = w' := by
  go_enter Try.func66, Try.ntmps66
  go_wp2
  go_ret
  exact ⟨rfl, rfl⟩
set_option maxHeartbeats 1000000 in
theorem tries_out (p : Nat) (s : ByteArray) (at_ : Int) (w : World) (hs : s.size ≤ 1000000) (ho : at_ < 0 ∨ (s.size : Int) < at_ + 16) :
    Calls Try.prog 66 #[.pointer (some ⟨p, 0, none⟩), .string s, .int .i64 at_] w fun e w' => e = .returned (.slice none 0 0) ∧ w = w' := by
  have w1 : IntKind.i64.wrap ((s.size : Int) - 16) = (s.size : Int) - 16 := IntWalk.i64_in _ (by omega)
  by_cases h0 : at_ < 0
  · clear ho hs
    go_enter Try.func66, Try.ntmps66
    go_wp2
    go_ret
    exact ⟨rfl, rfl⟩
  · have h1 : (s.size : Int) - 16 < at_ := by omega
    clear ho hs
    go_enter Try.func66, Try.ntmps66
    go_wp2
    go_ret
    exact ⟨rfl, rfl⟩
set_option maxHeartbeats 2000000 in
theorem tries_in {w : World} {b p : Nat} {B : ByteArray} (h : Ix w b p B) (s : ByteArray) (k : Nat) (hs : s.size ≤ 1000000) (hk : k + 16 ≤ s.size) :
    Calls Try.prog 66 #[.pointer (some ⟨p, 0, none⟩), .string s, .int .i64 (k : Int)] w fun e w' => ∃ v, e = .returned v ∧ w'.ownsRow b 3 1 v (tri (sAt B) B.size (sAt s) s.size (k : Int)).length (iv (tri (sAt B) B.size (sAt s) s.size (k : Int))) ∧ (tri (sAt B) B.size (sAt s) s.size (k : Int) = [] → v = .slice none 0 0) ∧ Below w.heap.size w w' := by
  have w1 : IntKind.i64.wrap ((s.size : Int) - 16) = (s.size : Int) - 16 := IntWalk.i64_in _ (by omega)
  have w2 : IntKind.i64.wrap ((k : Int) + 16) = (k : Int) + 16 := IntWalk.i64_in _ (by omega)
  have h0 : ¬ ((k : Int) < 0) := by omega
  have h1 : ¬ ((s.size : Int) - 16 < (k : Int)) := by omega
  have h3 : (k : Int) + 16 ≤ (s.size : Int) := by omega
  obtain ⟨t, ht⟩ : ∃ t, t = s.extract k (k + 16) := ⟨_, rfl⟩
  have ts : t.size = 16 := by rw [ht, size_ext s k (k + 16) (by omega) (by omega)]; omega
  have tf : ∀ j, j < 16 → sAt t j = sh (sAt s) k j := fun j hj => by rw [ht, sAt_ext s k (k + 16) j (by omega) (by omega) (by omega)]; rfl
  have C1 : Hid (∀ W : World, Calls Try.prog 75 #[.string t] W fun e w' => ∃ c d, e = .returned (.tuple #[.complex .f64 c d, .bool true]) ∧ Cx c d (num (sAt s) k).1 (num (sAt s) k).2 ∧ Below W.heap.size W w') := fun W => of_win t (sh (sAt s) k) W ts tf
  have et : s.extract k (k + 16) = t := ht.symm
  have H := Lib.hid h
  rw [tri_in k hk]
  obtain ⟨T, hT⟩ : ∃ T, T = fun x => pl (sAt B) x (B.size - 15) := ⟨_, rfl⟩
  have HT : Hid (∀ x, T x = pl (sAt B) x (B.size - 15)) := fun x => by rw [hT]
  rw [← HT.out]
  clear h hs hk ht ts tf hT
  go_enter Try.func66, Try.ntmps66
  go_wp2_with fail
  refine (C1.out _).mono ?_
  rintro e w5 ⟨c, d, rfl, hc, B2⟩
  have I5 := H.out.below (Nat.le_refl _) B2
  obtain ⟨m, c0, c1, hM⟩ := I5.cells
  obtain ⟨v, hv, hO, hE⟩ := hM.look hc
  have hv0 := hv 0
  have HO := Lib.hid hO
  have HE := Lib.hid hE
  have HB := Lib.hid B2
  clear hM I5 hc B2 C1 H hv hO hE
  go_wp2_with (at_lookup; refine wpList_lookup_run rfl (.tmp 34) (.tmp 35) 116 rfl _ _ _ rfl rfl hv0 ?_)
  go_ret
  have e := HO.out
  have e2 := HE.out
  rw [← HT.out] at e e2
  exact ⟨_, rfl, e, e2, HB.out⟩
end Go.Proofs.Ytekeaoolodmdaaa.Mt
/- Find. -/
namespace Go.Proofs.Ytekeaoolodmdaaa.Mt
set_option maxRecDepth 100000
open Go.RowKit
theorem row_form {w : World} {b : Nat} {v : Value} {l : List Nat} (h : w.ownsRow b 3 1 v l.length (iv l)) :
    ∃ ad cap, v = .slice ad l.length cap ∧ ∀ q, q < l.length → ∃ g, ad = some ⟨g, 0, none⟩ ∧ g < w.heap.size ∧ ∀ w' : World, w'.heap[g]? = w.heap[g]? → w'.cell? ⟨g, q, none⟩ = some (.int .i64 ((l.getD q 0 : Nat) : Int)) := by
  rcases h.2 with ⟨rfl, h0⟩ | ⟨g, cap, cur, rfl, hb, hg, h1, h2, h3, h4⟩
  · exact ⟨none, 0, by rw [h0], fun q hq => by omega⟩
  · refine ⟨some ⟨g, 0, none⟩, cap, rfl, fun q hq => ⟨g, rfl, lt_of_block hg, fun w' hw => ?_⟩⟩
    rw [cell_of_row w' g q cur 3 (0, 0) (hw.trans hg)]
    have : (cur.toList.take (l.length * 1))[q]? = (iv l)[q]? := by rw [h4]
    rw [List.getElem?_take, if_pos (by omega), Array.getElem?_toList] at this
    rw [this]
    simp [iv, List.getElem?_map, List.getD_eq_getElem?_getD, List.getElem?_eq_getElem hq]
theorem tries_any {w : World} {b p : Nat} {B : ByteArray} (h : Ix w b p B) (s : ByteArray) (at_ : Int) (hs : s.size ≤ 1000000) :
    Calls Try.prog 66 #[.pointer (some ⟨p, 0, none⟩), .string s, .int .i64 at_] w fun e w' => ∃ v, e = .returned v ∧ w'.ownsRow b 3 1 v (tri (sAt B) B.size (sAt s) s.size at_).length (iv (tri (sAt B) B.size (sAt s) s.size at_)) ∧ (tri (sAt B) B.size (sAt s) s.size at_ = [] → v = .slice none 0 0) ∧ Below w.heap.size w w' := by
  by_cases hc : at_ < 0 ∨ (s.size : Int) < at_ + 16
  · rw [tri_out hc]
    refine (tries_out p s at_ w hs hc).mono ?_
    rintro e w' ⟨rfl, rfl⟩
    exact ⟨_, rfl, World.ownsRow_nil _ _ _ _, fun _ => rfl, Below.refl _ _⟩
  · obtain ⟨k, rfl⟩ : ∃ k : Nat, at_ = (k : Int) := ⟨at_.toNat, by omega⟩
    exact tries_in h s k hs (by omega)
set_option maxHeartbeats 2000000 in
theorem find_any {w : World} {b p : Nat} {B : ByteArray} (h : Ix w b p B) (s : ByteArray) (at_ : Int) (hB : B.size ≤ 1000000) (hs : s.size ≤ 1000000) :
    Calls Try.prog 50 #[.pointer (some ⟨p, 0, none⟩), .string s, .int .i64 at_] w fun e w' => e = .returned (.tuple #[.int .i64 ((fnd (sAt B) B.size (sAt s) s.size at_).1 : Nat), .int .i64 ((fnd (sAt B) B.size (sAt s) s.size at_).2 : Nat)]) ∧ Below w.heap.size w w' := by
  have C1 := tries_any h s at_ hs
  have MEM : Hid (∀ q, q < (tri (sAt B) B.size (sAt s) s.size at_).length → (tri (sAt B) B.size (sAt s) s.size at_).getD q 0 + 16 ≤ B.size ∧ 0 ≤ at_ ∧ at_ + 16 ≤ (s.size : Int)) := fun q hq => by
    rw [List.getD_eq_getElem?_getD, List.getElem?_eq_getElem hq]
    exact tri_mem (List.getElem_mem hq)
  have LEN : Hid ((tri (sAt B) B.size (sAt s) s.size at_).length ≤ 8) := tri_len _ _ _ _ _
  obtain ⟨l, hl⟩ : ∃ l, l = tri (sAt B) B.size (sAt s) s.size at_ := ⟨_, rfl⟩
  obtain ⟨L, hL⟩ : ∃ L, L = lk (sAt B) B.size (sAt s) s.size at_.toNat := ⟨_, rfl⟩
  have HF : Hid (fnd (sAt B) B.size (sAt s) s.size at_ = best L l) := by show _ = _; rw [hl, hL]; rfl
  obtain ⟨x0, y0, h0⟩ : ∃ x y, fnd (sAt B) B.size (sAt s) s.size at_ = (x, y) := ⟨_, _, rfl⟩
  rw [h0]
  have HF2 : Hid (best L l = (x0, y0)) := by show _ = _; rw [← HF.out, h0]
  have C2 : Hid (∀ (a k : Nat), a ≤ B.size → at_ = (k : Int) → k ≤ s.size → ∀ W : World, Calls Try.prog 67 #[.string (B.extract a B.size), .string (s.extract k s.size)] W fun e w' => e = .returned (.int .i64 ((L a : Nat) : Int)) ∧ Below W.heap.size W w') := fun a k ha hk hk2 W => by
    have e : L a = lkF (sAt B) (sAt s) a k (min (B.extract a B.size).size (s.extract k s.size).size) := by
      rw [hL, size_ext B a B.size ha (Nat.le_refl _), size_ext s k s.size hk2 (Nat.le_refl _), hk]; rfl
    rw [e]
    refine common_any _ _ (sAt B) (sAt s) a k W (by rw [size_ext B a B.size ha (Nat.le_refl _)]; omega) (by rw [size_ext s k s.size hk2 (Nat.le_refl _)]; omega) (fun j hj => ?_) (fun j hj => ?_)
    · rw [size_ext B a B.size ha (Nat.le_refl _)] at hj
      exact sAt_ext B a B.size j ha (Nat.le_refl _) hj
    · rw [size_ext s k s.size hk2 (Nat.le_refl _)] at hj
      exact sAt_ext s k s.size j hk2 (Nat.le_refl _) hj
  rw [← hl] at C1 MEM LEN
  have HI := Lib.hid h
  have HS := Lib.hid (show B.size ≤ 1000000 ∧ s.size ≤ 1000000 from ⟨hB, hs⟩)
  clear h hl hL h0 HF hB hs
  go_enter Try.func50, Try.ntmps50
  go_wp2_with fail
  refine C1.mono ?_
  rintro e w1 ⟨v, rfl, hO, _, B1⟩
  obtain ⟨ad, cap, rfl, hcell⟩ := row_form hO
  have I1 : Hid (Ix w1 b p B) := HI.out.below (Nat.le_refl _) B1
  have HC := Lib.hid hcell
  have HB1 := Lib.hid B1
  clear hO hcell B1 HI C1
  go_wp2
  go_loopw [8, 9, 18] (fun x y i wr => ∃ (q a c : Nat), q ≤ l.length ∧ i = .int .i64 (q : Int) ∧ x = .int .i64 (a : Int) ∧ y = .int .i64 (c : Int) ∧ Hid (best L (l.take q) = (a, c)) ∧ Hid (Below w1.heap.size w1 wr)) (fun _ _ i _ => l.length - (intOf i).toNat)
  case atStart => exact ⟨0, 0, 0, Nat.zero_le _, rfl, rfl, rfl, rfl, Below.refl _ _⟩
  case round =>
    obtain ⟨q, a, c, hq, rfl, rfl, rfl, hE, hLw⟩ := hrel
    by_cases hlt : q < l.length
    · obtain ⟨g, rfl, hg, hcell⟩ := HC.out q hlt
      have c0 := hcell wr (hLw.out.block g hg)
      obtain ⟨m1, m2, m3⟩ := MEM.out q hlt
      obtain ⟨k, rfl⟩ : ∃ k : Nat, at_ = (k : Int) := ⟨at_.toNat, by omega⟩
      obtain ⟨a', ha'⟩ : ∃ a', a' = l.getD q 0 := ⟨_, rfl⟩
      have ST : Hid (best L (l.take (q + 1)) = stp L (a, c) a') := by show _ = _; rw [best_snoc L l q hlt, hE.out, ha']
      rw [← ha'] at c0 m1
      have D := C2.out a' k (by omega) rfl (by omega)
      have DD := Lib.hid D
      obtain ⟨n, hn⟩ : ∃ n, n = L a' := ⟨_, rfl⟩
      rw [← hn] at DD
      have SN : Hid (best L (l.take (q + 1)) = if 16 ≤ n ∧ c < n then (a', n) else (a, c)) := by show _ = _; rw [ST.out, hn]; rfl
      obtain ⟨mm, d0, d1, hM⟩ := (I1.out.below (Nat.le_refl _) hLw.out).cells
      have yk : (q : Int) < (l.length : Int) := by omega
      have zk : (0 : Int) ≤ (q : Int) := by omega
      have e1 : (a' : Int) ≤ (B.size : Int) := by omega
      have e2 : (k : Int) ≤ (s.size : Int) := by omega
      have ll := LEN.out
      have w1' : IntKind.i64.wrap ((q : Int) + 1) = (q : Int) + 1 := IntWalk.i64_in _ (by omega)
      clear hM d1 D ha' hn ST ll hcell m1 m2 m3
      go_upto_region 5 with fail
      have S0 : wr.drew.cell? ⟨p, 0, none⟩ = some (.string B) ∧ Below w1.heap.size w1 wr.drew := ⟨d0, hLw.out.drew⟩
      have PB : Hid (p < w1.heap.size) := by obtain ⟨m, z1, _⟩ := I1.out; exact lt_of_block z1
      go_region_held3 (fun w' => w'.cell? ⟨p, 0, none⟩ = some (.string B) ∧ Below w1.heap.size w1 w') (first | exact S0 | assumption) (first | (go_at_call 67; refine (DD.out _).mono ?_; rintro e w5 ⟨rfl, B5⟩; have L5 : w5.cell? ⟨p, 0, none⟩ = some (.string B) ∧ Below w1.heap.size w1 w5 := ⟨(World.cell?_of_block (a := ⟨p, 0, none⟩) (B5.block p (Nat.lt_of_lt_of_le PB.out S0.2.size))).trans S0.1, S0.2.trans (B5.mono S0.2.size)⟩))
      all_goals
        have L6 := Lib.hid L5.2
        have yl : (q : Int) + 1 = ((q + 1 : Nat) : Int) := by omega
        clear S0 L5 B5 c0 d0 e1 e2 yk zk DD C2 PB hE
        by_cases f1 : 16 ≤ n
        · have g1 : (16 : Int) ≤ (n : Int) := by omega
          by_cases f2 : c < n
          · have g2 : (c : Int) < (n : Int) := by omega
            have SE : Hid (best L (l.take (q + 1)) = (a', n)) := by show _ = _; rw [SN.out, if_pos ⟨f1, f2⟩]
            clear f1 f2 yl
            go_wp2
            go_roundw
            case rel => exact ⟨q + 1, a', n, by omega, by go_num, rfl, rfl, SE, L6⟩
            case measure => simp [intOf]; omega
          · have g2 : (n : Int) ≤ (c : Int) := by omega
            have SE : Hid (best L (l.take (q + 1)) = (a, c)) := by show _ = _; rw [SN.out, if_neg (fun h => f2 h.2)]
            clear f1 f2 yl
            go_wp2
            go_roundw
            case rel => exact ⟨q + 1, a, c, by omega, by go_num, rfl, rfl, SE, L6⟩
            case measure => simp [intOf]; omega
        · have g1 : (n : Int) < 16 := by omega
          have SE : Hid (best L (l.take (q + 1)) = (a, c)) := by show _ = _; rw [SN.out, if_neg (fun h => f1 h.1)]
          clear f1 yl
          go_wp2
          go_roundw
          case rel => exact ⟨q + 1, a, c, by omega, by go_num, rfl, rfl, SE, L6⟩
          case measure => simp [intOf]; omega
    · have e : q = l.length := by omega
      subst e
      have E2 : Hid ((a, c) = (x0, y0)) := by show _ = _; rw [← hE.out, ← HF2.out, best_all]
      have LL : Hid (Below w.heap.size w wr) := HB1.out.trans (hLw.out.mono HB1.out.size)
      clear hE MEM C2 HC
      go_wp2
      go_ret2
      have e1 := E2.out
      injection e1 with e1 e2
      exact ⟨by rw [e1, e2]; rfl, LL.out⟩
end Go.Proofs.Ytekeaoolodmdaaa.Mt
/- New. -/
namespace Go.Proofs.Ytekeaoolodmdaaa.Mt
set_option maxRecDepth 100000
open Go.RowKit
/- the numbers of all windows, of any text -/
theorem all_both (s : ByteArray) (w : World) (hs : s.size ≤ 5000) : Calls Try.prog 65 #[.string s] w fun e w' => ∃ ad cap, e = .returned (.slice ad (s.size - 15) cap) ∧
    (∀ q, q < s.size - 15 → ∃ g c d, ad = some ⟨g, 0, none⟩ ∧ (w.heap.size ≤ g ∧ g < w'.heap.size) ∧ Cx c d (num (sAt s) q).1 (num (sAt s) q).2 ∧ ∀ w2 : World, w2.heap[g]? = w'.heap[g]? → w2.cell? ⟨g, q, none⟩ = some (.complex .f64 c d)) ∧ Below w.heap.size w w' := by
  by_cases h : s.size < 16
  · refine (all_few s w h).mono ?_
    rintro e w' ⟨rfl, rfl⟩
    exact ⟨none, 0, by rw [show s.size - 15 = 0 by omega], fun q hq => by omega, Below.refl _ _⟩
  · refine (all_any s (sAt s) w (by omega) hs rfl).mono ?_
    rintro e w' ⟨g, cap, xs, rfl, hO, hN, hB⟩
    refine ⟨_, _, rfl, fun q hq => ?_, hB⟩
    obtain ⟨c, d, h1, h2⟩ := hN.2 q hq
    have hlt := hO.lt g rfl
    refine ⟨g, c, d, rfl, hlt, h2, fun w2 hw => ?_⟩
    have := hO.cellAt q (by omega)
    rw [World.cell?_of_block (a := ⟨g, q, none⟩) hw, this, h1]
set_option maxHeartbeats 4000000 in
theorem new_any (s : ByteArray) (w : World) (hs : s.size ≤ 5000) (CL : ∀ W : World, Calls Try.prog 26 #[.string s] W fun e w' => e = .returned (.string s) ∧ Below W.heap.size W w') :
    Calls Try.prog 49 #[.string s] w fun e w' => ∃ p b, e = .returned (.pointer (some ⟨p, 0, none⟩)) ∧ Ix w' b p s ∧ Below w.heap.size w w' := by
  have hmm := @run_makeMap Try.prog
  have C1 : Hid (∀ W : World, _) := fun W => all_both s W hs
  have C2 := Lib.hid CL
  obtain ⟨f, hf⟩ : ∃ f, f = sAt s := ⟨_, rfl⟩
  obtain ⟨n, hn⟩ : ∃ n, n = s.size - 15 := ⟨_, rfl⟩
  have IXE : Hid (∀ w' b p, Ix w' b p s = ∃ m, w'.heap[p]? = some (.cells #[.string s, .map (some m)] 120 (0, 0)) ∧ Mp w' b m (fun x => pl f x n)) := fun w' b p => by rw [hf, hn]; rfl
  have HN : Hid (n ≤ 5000) := by show n ≤ 5000; omega
  rw [← hf, ← hn] at C1
  clear hf hn hs CL
  go_enter Try.func49, Try.ntmps49
  go_wp2_with fail
  refine (C1.out _).mono ?_
  rintro e w2 ⟨ad, cap, rfl, hcell, B1⟩
  have z1 := B1.size
  have M2 : Hid (Mp w2 w2.heap.size w.heap.size (fun x => pl f x 0)) := by
    refine Mp.below (n := (w.alloc (.map #[] 0)).heap.size) ?_ (Nat.le_refl _) B1
    exact (Mp.made w w2.heap.size).congr (fun x => rfl)
  have L2 : Hid (Below w.heap.size w w2) := ((Below.refl _ _).alloc (Nat.le_refl _) _).trans (B1.mono (by simp))
  have HC := Lib.hid hcell
  have ZZ : Hid (w.heap.size < w2.heap.size) := by
    have : (w.alloc (.map #[] 0)).heap.size = w.heap.size + 1 := by simp
    show _ < _
    omega
  clear B1 z1 hcell C1
  go_wp2
  have E0 : (w.alloc (.map #[] 0)).heap.size = w.heap.size + 1 := by simp
  have STEP : Hid (∀ q, (pl f (num f q) q).length < 8 → ∀ x, (if x = num f q then pl f (num f q) q ++ [q] else pl f x q) = pl f x (q + 1)) := fun q h x => by
    rw [pl_succ]
    by_cases e : x = num f q
    · rw [if_pos e, e, if_pos ⟨rfl, h⟩]
    · rw [if_neg e, if_neg (fun h => e h.1.symm)]
  have STAY : Hid (∀ q, ¬ (pl f (num f q) q).length < 8 → ∀ x, pl f x q = pl f x (q + 1)) := fun q h x => by
    rw [pl_succ]
    by_cases e : num f q = x
    · rw [if_neg (fun c => h (by rw [e]; exact c.2))]
    · rw [if_neg (fun h => e h.1)]
  go_loopw [11] (fun i wr => ∃ q : Nat, q ≤ n ∧ i = .int .i64 (q : Int) ∧ Hid (Mp wr w2.heap.size w.heap.size (fun x => pl f x q)) ∧ Hid (Below w.heap.size w wr) ∧ Hid (w2.heap.size ≤ wr.heap.size ∧ ∀ j, j < w2.heap.size → j ≠ w.heap.size → wr.heap[j]? = w2.heap[j]?)) (fun i _ => n - (intOf i).toNat)
  case atStart => exact ⟨0, Nat.zero_le _, rfl, M2, L2, Nat.le_refl _, fun _ _ _ => rfl⟩
  case round =>
    obtain ⟨q, hq, rfl, hM, hB, hK⟩ := hrel
    by_cases hlt : q < n
    · obtain ⟨g, c, d, rfl, hg, hc, hcell⟩ := HC.out q hlt
      have c0 := hcell wr (hK.out.2 g hg.2 (by omega))
      have z := HN.out
      have z2 := ZZ.out
      have yk : (q : Int) < (n : Int) := by omega
      have zk : (0 : Int) ≤ (q : Int) := by omega
      have w1' : IntKind.i64.wrap ((q : Int) + 1) = (q : Int) + 1 := IntWalk.i64_in _ (by omega)
      by_cases h8 : (pl f (num f q) q).length < 8
      · obtain ⟨v, hlook, hown, v', w5, w6, hap, hup, hM', hB', hsz, hkeep⟩ := hM.out.more hK.out.1 hB.out (Nat.le_of_lt z2) (Nat.le_refl _) hc q h8
        obtain ⟨ad', cap', rfl, _⟩ := row_form hown
        obtain ⟨ln, hln⟩ : ∃ ln, ln = (pl f (num f q) q).length := ⟨_, rfl⟩
        rw [← hln] at hap hlook
        have t8 : (ln : Int) < 8 := by omega
        have HM' : Hid (Mp w6 w2.heap.size w.heap.size (fun x => pl f x (q + 1))) := hM'.congr (STEP.out q h8)
        have HB' := Lib.hid hB'
        have HK' : Hid (w2.heap.size ≤ w6.heap.size ∧ ∀ j, j < w2.heap.size → j ≠ w.heap.size → w6.heap[j]? = w2.heap[j]?) := ⟨Nat.le_trans hK.out.1 hsz, fun j hj hne => (hkeep j hj hne).trans (hK.out.2 j hj hne)⟩
        clear hM' hB' hsz hkeep hown h8 hln hg hc hcell z z2 hM hB hK STEP STAY M2 L2
        go_wp2_with (first | (at_lookup; refine wpList_lookup_run rfl (.tmp 16) (.tmp 17) 116 rfl _ _ _ rfl rfl hlook ?_) | (at_mapUpdate; refine wpList_update_run rfl (.tmp 22) (.tmp 23) (.tmp 27) 116 rfl _ _ _ rfl rfl rfl hup ?_) | (at_builtin; refine wpList_append_run rfl (.tmp 24) (.tmp 26) 30 30 rfl _ _ _ _ rfl rfl hap ?_))
        go_roundw
        case rel => exact ⟨q + 1, by omega, by go_num, HM', HB', HK'⟩
        case measure => simp [intOf]; omega
      · obtain ⟨v, hv, hown, _⟩ := hM.out.look hc
        have hlook := hv 0
        obtain ⟨ad', cap', rfl, _⟩ := row_form hown
        obtain ⟨ln, hln⟩ : ∃ ln, ln = (pl f (num f q) q).length := ⟨_, rfl⟩
        rw [← hln] at hlook
        have t8 : (8 : Int) ≤ (ln : Int) := by omega
        have HM' : Hid (Mp wr w2.heap.size w.heap.size (fun x => pl f x (q + 1))) := hM.out.congr (STAY.out q h8)
        clear hown h8 hln hg hc hcell z z2 hM hv STEP STAY M2 L2
        go_wp2_with (first | (at_lookup; refine wpList_lookup_run rfl (.tmp 16) (.tmp 17) 116 rfl _ _ _ rfl rfl hlook ?_))
        go_roundw
        case rel => exact ⟨q + 1, by omega, by go_num, HM', hB, hK⟩
        case measure => simp [intOf]; omega
    · have e : q = n := by omega
      subst e
      go_wp2_with fail
      refine (C2.out _).mono ?_
      rintro e w5 ⟨rfl, B5⟩
      have M5 : Hid (Mp w5 w2.heap.size w.heap.size (fun x => pl f x q)) := hM.out.below (Nat.le_refl _) B5
      have L5 : Hid (Below w.heap.size w w5) := hB.out.trans (B5.mono hB.out.size)
      clear B5 hM hB hK STEP STAY M2 L2 C2 HC
      go_wp2
      go_ret
      refine ⟨_, w2.heap.size, rfl, ?_, L5.out.alloc L5.out.size _⟩
      rw [IXE.out]
      exact ⟨w.heap.size, heap_alloc_new _ _, M5.out.kept (World.grownBy_alloc _ _ none)⟩
end Go.Proofs.Ytekeaoolodmdaaa.Mt
