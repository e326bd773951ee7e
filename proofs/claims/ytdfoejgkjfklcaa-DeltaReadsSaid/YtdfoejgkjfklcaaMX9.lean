import Derived.Test.YtdfoejgkjfklcaaMX8
import Derived.Deep.RegionHeld3
/- Find. -/
namespace Go.Proofs.Ytdfoejgkjfklcaa.Mt
set_option maxRecDepth 100000
open Go.RowKit
theorem row_form {w : World} {b : Nat} {v : Value} {l : List Nat} (h : w.ownsRow b 3 1 v l.length (iv l)) :
    ∃ ad cap, v = .slice ad l.length cap ∧ ∀ q, q < l.length → ∃ g, ad = some ⟨g, 0, none⟩ ∧ g < w.heap.size ∧ ∀ w' : World, w'.heap[g]? = w.heap[g]? → w'.cell? ⟨g, q, none⟩ = some (.int .i64 ((l.getD q 0 : Nat) : Int)) := by
  rcases h.2 with ⟨rfl, h0⟩ | ⟨g, cap, cur, rfl, hb, hg, h1, h2, h3, h4⟩
  · exact ⟨none, 0, by rw [h0], fun q hq => by omega⟩
  · refine ⟨some ⟨g, 0, none⟩, cap, rfl, fun q hq => ⟨g, rfl, lt_of_block hg, fun w' hw => ?_⟩⟩
    rw [cell_of_row w' g q cur 3 (0, 0) (hw.trans hg)]
    have : (cur.toList.take (l.length * 1))[q]? = (iv l)[q]? := by rw [h4]
    rw [List.getElem?_take, if_pos (by omega), Array.getElem?_toList] at this
    rw [this]
    simp [iv, List.getElem?_map, List.getD_eq_getElem?_getD, List.getElem?_eq_getElem hq]
theorem tries_any {w : World} {b p : Nat} {B : ByteArray} (h : Ix w b p B) (s : ByteArray) (at_ : Int) (hs : s.size ≤ 1000000) :
    Calls Try.prog 39 #[.pointer (some ⟨p, 0, none⟩), .string s, .int .i64 at_] w fun e w' => ∃ v, e = .returned v ∧ w'.ownsRow b 3 1 v (tri (sAt B) B.size (sAt s) s.size at_).length (iv (tri (sAt B) B.size (sAt s) s.size at_)) ∧ (tri (sAt B) B.size (sAt s) s.size at_ = [] → v = .slice none 0 0) ∧ Below w.heap.size w w' := by
  by_cases hc : at_ < 0 ∨ (s.size : Int) < at_ + 16
  · rw [tri_out hc]
    refine (tries_out p s at_ w hs hc).mono ?_
    rintro e w' ⟨rfl, rfl⟩
    exact ⟨_, rfl, World.ownsRow_nil _ _ _ _, fun _ => rfl, Below.refl _ _⟩
  · obtain ⟨k, rfl⟩ : ∃ k : Nat, at_ = (k : Int) := ⟨at_.toNat, by omega⟩
    exact tries_in h s k hs (by omega)
set_option maxHeartbeats 2000000 in
theorem find_any {w : World} {b p : Nat} {B : ByteArray} (h : Ix w b p B) (s : ByteArray) (at_ : Int) (hB : B.size ≤ 1000000) (hs : s.size ≤ 1000000) :
    Calls Try.prog 17 #[.pointer (some ⟨p, 0, none⟩), .string s, .int .i64 at_] w fun e w' => e = .returned (.tuple #[.int .i64 ((fnd (sAt B) B.size (sAt s) s.size at_).1 : Nat), .int .i64 ((fnd (sAt B) B.size (sAt s) s.size at_).2 : Nat)]) ∧ Below w.heap.size w w' := by
  have C1 := tries_any h s at_ hs
  have MEM : Hid (∀ q, q < (tri (sAt B) B.size (sAt s) s.size at_).length → (tri (sAt B) B.size (sAt s) s.size at_).getD q 0 + 16 ≤ B.size ∧ 0 ≤ at_ ∧ at_ + 16 ≤ (s.size : Int)) := fun q hq => by
    rw [List.getD_eq_getElem?_getD, List.getElem?_eq_getElem hq]
    exact tri_mem (List.getElem_mem hq)
  have LEN : Hid ((tri (sAt B) B.size (sAt s) s.size at_).length ≤ 8) := tri_len _ _ _ _ _
  obtain ⟨l, hl⟩ : ∃ l, l = tri (sAt B) B.size (sAt s) s.size at_ := ⟨_, rfl⟩
  obtain ⟨L, hL⟩ : ∃ L, L = lk (sAt B) B.size (sAt s) s.size at_.toNat := ⟨_, rfl⟩
  have HF : Hid (fnd (sAt B) B.size (sAt s) s.size at_ = best L l) := by show _ = _; rw [hl, hL]; rfl
  obtain ⟨x0, y0, h0⟩ : ∃ x y, fnd (sAt B) B.size (sAt s) s.size at_ = (x, y) := ⟨_, _, rfl⟩
  rw [h0]
  have HF2 : Hid (best L l = (x0, y0)) := by show _ = _; rw [← HF.out, h0]
  have C2 : Hid (∀ (a k : Nat), a ≤ B.size → at_ = (k : Int) → k ≤ s.size → ∀ W : World, Calls Try.prog 40 #[.string (B.extract a B.size), .string (s.extract k s.size)] W fun e w' => e = .returned (.int .i64 ((L a : Nat) : Int)) ∧ Below W.heap.size W w') := fun a k ha hk hk2 W => by
    have e : L a = lkF (sAt B) (sAt s) a k (min (B.extract a B.size).size (s.extract k s.size).size) := by
      rw [hL, size_ext B a B.size ha (Nat.le_refl _), size_ext s k s.size hk2 (Nat.le_refl _), hk]; rfl
    rw [e]
    refine common_any _ _ (sAt B) (sAt s) a k W (by rw [size_ext B a B.size ha (Nat.le_refl _)]; omega) (by rw [size_ext s k s.size hk2 (Nat.le_refl _)]; omega) (fun j hj => ?_) (fun j hj => ?_)
    · rw [size_ext B a B.size ha (Nat.le_refl _)] at hj
      exact sAt_ext B a B.size j ha (Nat.le_refl _) hj
    · rw [size_ext s k s.size hk2 (Nat.le_refl _)] at hj
      exact sAt_ext s k s.size j hk2 (Nat.le_refl _) hj
  rw [← hl] at C1 MEM LEN
  have HI := Lib.hid h
  have HS := Lib.hid (show B.size ≤ 1000000 ∧ s.size ≤ 1000000 from ⟨hB, hs⟩)
  clear h hl hL h0 HF hB hs
  go_enter Try.func17, Try.ntmps17
  go_wp2_with fail
  refine C1.mono ?_
  rintro e w1 ⟨v, rfl, hO, _, B1⟩
  obtain ⟨ad, cap, rfl, hcell⟩ := row_form hO
  have I1 : Hid (Ix w1 b p B) := HI.out.below (Nat.le_refl _) B1
  have HC := Lib.hid hcell
  have HB1 := Lib.hid B1
  clear hO hcell B1 HI C1
  go_wp2
  go_loopw [8, 9, 18] (fun x y i wr => ∃ (q a c : Nat), q ≤ l.length ∧ i = .int .i64 (q : Int) ∧ x = .int .i64 (a : Int) ∧ y = .int .i64 (c : Int) ∧ Hid (best L (l.take q) = (a, c)) ∧ Hid (Below w1.heap.size w1 wr)) (fun _ _ i _ => l.length - (intOf i).toNat)
  case atStart => exact ⟨0, 0, 0, Nat.zero_le _, rfl, rfl, rfl, rfl, Below.refl _ _⟩
  case round =>
    obtain ⟨q, a, c, hq, rfl, rfl, rfl, hE, hLw⟩ := hrel
    by_cases hlt : q < l.length
    · obtain ⟨g, rfl, hg, hcell⟩ := HC.out q hlt
      have c0 := hcell wr (hLw.out.block g hg)
      obtain ⟨m1, m2, m3⟩ := MEM.out q hlt
      obtain ⟨k, rfl⟩ : ∃ k : Nat, at_ = (k : Int) := ⟨at_.toNat, by omega⟩
      obtain ⟨a', ha'⟩ : ∃ a', a' = l.getD q 0 := ⟨_, rfl⟩
      have ST : Hid (best L (l.take (q + 1)) = stp L (a, c) a') := by show _ = _; rw [best_snoc L l q hlt, hE.out, ha']
      rw [← ha'] at c0 m1
      have D := C2.out a' k (by omega) rfl (by omega)
      have DD := Lib.hid D
      obtain ⟨n, hn⟩ : ∃ n, n = L a' := ⟨_, rfl⟩
      rw [← hn] at DD
      have SN : Hid (best L (l.take (q + 1)) = if 16 ≤ n ∧ c < n then (a', n) else (a, c)) := by show _ = _; rw [ST.out, hn]; rfl
      obtain ⟨mm, d0, d1, hM⟩ := (I1.out.below (Nat.le_refl _) hLw.out).cells
      have yk : (q : Int) < (l.length : Int) := by omega
      have zk : (0 : Int) ≤ (q : Int) := by omega
      have e1 : (a' : Int) ≤ (B.size : Int) := by omega
      have e2 : (k : Int) ≤ (s.size : Int) := by omega
      have ll := LEN.out
      have w1' : IntKind.i64.wrap ((q : Int) + 1) = (q : Int) + 1 := IntWalk.i64_in _ (by omega)
      clear hM d1 D ha' hn ST ll hcell m1 m2 m3
      go_upto_region 5 with fail
      have S0 : wr.drew.cell? ⟨p, 0, none⟩ = some (.string B) ∧ Below w1.heap.size w1 wr.drew := ⟨d0, hLw.out.drew⟩
      have PB : Hid (p < w1.heap.size) := by obtain ⟨m, z1, _⟩ := I1.out; exact lt_of_block z1
      go_region_held3 (fun w' => w'.cell? ⟨p, 0, none⟩ = some (.string B) ∧ Below w1.heap.size w1 w') (first | exact S0 | assumption) (first | (go_at_call 40; refine (DD.out _).mono ?_; rintro e w5 ⟨rfl, B5⟩; have L5 : w5.cell? ⟨p, 0, none⟩ = some (.string B) ∧ Below w1.heap.size w1 w5 := ⟨(World.cell?_of_block (a := ⟨p, 0, none⟩) (B5.block p (Nat.lt_of_lt_of_le PB.out S0.2.size))).trans S0.1, S0.2.trans (B5.mono S0.2.size)⟩))
      all_goals
        have L6 := Lib.hid L5.2
        have yl : (q : Int) + 1 = ((q + 1 : Nat) : Int) := by omega
        clear S0 L5 B5 c0 d0 e1 e2 yk zk DD C2 PB hE
        by_cases f1 : 16 ≤ n
        · have g1 : (16 : Int) ≤ (n : Int) := by omega
          by_cases f2 : c < n
          · have g2 : (c : Int) < (n : Int) := by omega
            have SE : Hid (best L (l.take (q + 1)) = (a', n)) := by show _ = _; rw [SN.out, if_pos ⟨f1, f2⟩]
            clear f1 f2 yl
            go_wp2
            go_roundw
            case rel => exact ⟨q + 1, a', n, by omega, by go_num, rfl, rfl, SE, L6⟩
            case measure => simp [intOf]; omega
          · have g2 : (n : Int) ≤ (c : Int) := by omega
            have SE : Hid (best L (l.take (q + 1)) = (a, c)) := by show _ = _; rw [SN.out, if_neg (fun h => f2 h.2)]
            clear f1 f2 yl
            go_wp2
            go_roundw
            case rel => exact ⟨q + 1, a, c, by omega, by go_num, rfl, rfl, SE, L6⟩
            case measure => simp [intOf]; omega
        · have g1 : (n : Int) < 16 := by omega
          have SE : Hid (best L (l.take (q + 1)) = (a, c)) := by show _ = _; rw [SN.out, if_neg (fun h => f1 h.1)]
          clear f1 yl
          go_wp2
          go_roundw
          case rel => exact ⟨q + 1, a, c, by omega, by go_num, rfl, rfl, SE, L6⟩
          case measure => simp [intOf]; omega
    · have e : q = l.length := by omega
      subst e
      have E2 : Hid ((a, c) = (x0, y0)) := by show _ = _; rw [← hE.out, ← HF2.out, best_all]
      have LL : Hid (Below w.heap.size w wr) := HB1.out.trans (hLw.out.mono HB1.out.size)
      clear hE MEM C2 HC
      go_wp2
      go_ret2
      have e1 := E2.out
      injection e1 with e1 e2
      exact ⟨by rw [e1, e2]; rfl, LL.out⟩
end Go.Proofs.Ytdfoejgkjfklcaa.Mt
