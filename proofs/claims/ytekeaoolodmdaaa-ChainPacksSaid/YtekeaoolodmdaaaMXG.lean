import Derived.Test.YtekeaoolodmdaaaMXE
/- The document's answer: Find; the same numbers. -/
namespace Go.Proofs.Ytekeaoolodmdaaa.Mt
set_option maxRecDepth 100000
open Go.RowKit
set_option maxHeartbeats 2000000 in
theorem qfind_any (B s : ByteArray) (at_ : Int) (w : World) (hB : B.size ≤ 1000000) (hs : s.size ≤ 1000000) :
    Calls Try.prog 37 #[.string B, .string s, .int .i64 at_] w fun e w' => e = .returned (.tuple #[.int .i64 ((fnd (sAt B) B.size (sAt s) s.size at_).1 : Nat), .int .i64 ((fnd (sAt B) B.size (sAt s) s.size at_).2 : Nat)]) ∧ Below w.heap.size w w' := by
  have C1 := qplaces_any B s at_ w hB hs
  have MEM : Hid (∀ q, q < (tri (sAt B) B.size (sAt s) s.size at_).length → (tri (sAt B) B.size (sAt s) s.size at_).getD q 0 + 16 ≤ B.size ∧ 0 ≤ at_ ∧ at_ + 16 ≤ (s.size : Int)) := fun q hq => by
    rw [List.getD_eq_getElem?_getD, List.getElem?_eq_getElem hq]
    exact tri_mem (List.getElem_mem hq)
  have LEN : Hid ((tri (sAt B) B.size (sAt s) s.size at_).length ≤ 8) := tri_len _ _ _ _ _
  obtain ⟨l, hl⟩ : ∃ l, l = tri (sAt B) B.size (sAt s) s.size at_ := ⟨_, rfl⟩
  obtain ⟨L, hL⟩ : ∃ L, L = lk (sAt B) B.size (sAt s) s.size at_.toNat := ⟨_, rfl⟩
  have HF : Hid (fnd (sAt B) B.size (sAt s) s.size at_ = best L l) := by show _ = _; rw [hl, hL]; rfl
  obtain ⟨x0, y0, h0⟩ : ∃ x y, fnd (sAt B) B.size (sAt s) s.size at_ = (x, y) := ⟨_, _, rfl⟩
  rw [h0]
  have HF2 : Hid (best L l = (x0, y0)) := by show _ = _; rw [← HF.out, h0]
  have C2 : Hid (∀ (a k : Nat), a ≤ B.size → at_ = (k : Int) → k ≤ s.size → ∀ W : World, Calls Try.prog 54 #[.string B, .int .i64 (a : Int), .string s, .int .i64 (k : Int)] W fun e w' => e = .returned (.int .i64 ((L a : Nat) : Int)) ∧ Below W.heap.size W w') := fun a k ha hk hk2 W => by
    have e : L a = lkF (sAt B) (sAt s) a k (min (B.size - a) (s.size - k)) := by rw [hL, hk]; rfl
    rw [e]
    exact like_any B s a k W hB hs (by omega) (by omega)
  rw [← hl] at C1 MEM LEN
  have HS := Lib.hid (show B.size ≤ 1000000 ∧ s.size ≤ 1000000 from ⟨hB, hs⟩)
  clear hl hL h0 HF hB hs
  go_enter Try.func37, Try.ntmps37
  go_wp2_with fail
  refine C1.mono ?_
  rintro e w1 ⟨v, rfl, hO, B1⟩
  obtain ⟨ad, cap, rfl, hcell⟩ := row_form hO
  have HC := Lib.hid hcell
  have HB1 := Lib.hid B1
  clear hO hcell B1 C1
  go_wp2
  go_loopw [9, 10, 11] (fun x y i wr => ∃ (q a c : Nat), q ≤ l.length ∧ i = .int .i64 (q : Int) ∧ x = .int .i64 (a : Int) ∧ y = .int .i64 (c : Int) ∧ Hid (best L (l.take q) = (a, c)) ∧ Hid (Below w1.heap.size w1 wr)) (fun _ _ i _ => l.length - (intOf i).toNat)
  case atStart => exact ⟨0, 0, 0, Nat.zero_le _, rfl, rfl, rfl, rfl, Below.refl _ _⟩
  case round =>
    obtain ⟨q, a, c, hq, rfl, rfl, rfl, hE, hLw⟩ := hrel
    by_cases hlt : q < l.length
    · obtain ⟨g, rfl, hg, hcell⟩ := HC.out q hlt
      have c0 := hcell wr (hLw.out.block g hg)
      obtain ⟨m1, m2, m3⟩ := MEM.out q hlt
      obtain ⟨k, rfl⟩ : ∃ k : Nat, at_ = (k : Int) := ⟨at_.toNat, by omega⟩
      obtain ⟨a', ha'⟩ : ∃ a', a' = l.getD q 0 := ⟨_, rfl⟩
      have ST : Hid (best L (l.take (q + 1)) = stp L (a, c) a') := by show _ = _; rw [best_snoc L l q hlt, hE.out, ha']
      have HCL : Hid (∀ w' : World, w'.heap[g]? = w1.heap[g]? → w'.cell? ⟨g, q, none⟩ = some (.int .i64 (a' : Int))) := fun w' h => by rw [ha']; exact hcell w' h
      rw [← ha'] at c0 m1
      have D := C2.out a' k (by omega) rfl (by omega)
      have DD := Lib.hid D
      obtain ⟨n, hn⟩ : ∃ n, n = L a' := ⟨_, rfl⟩
      rw [← hn] at DD
      have SN : Hid (best L (l.take (q + 1)) = if 16 ≤ n ∧ c < n then (a', n) else (a, c)) := by show _ = _; rw [ST.out, hn]; rfl
      have yk : (q : Int) < (l.length : Int) := by omega
      have zk : (0 : Int) ≤ (q : Int) := by omega
      have ll := LEN.out
      have w1' : IntKind.i64.wrap ((q : Int) + 1) = (q : Int) + 1 := IntWalk.i64_in _ (by omega)
      clear D ha' hn ST ll hcell m1 m2 m3
      go_wp2_with fail
      refine (DD.out _).mono ?_
      rintro e w5 ⟨rfl, B5⟩
      have L6 : Hid (Below w1.heap.size w1 w5) := hLw.out.trans (B5.mono hLw.out.size)
      have c1 := HCL.out w5 (L6.out.block g hg)
      clear B5 c0 DD hE
      by_cases f1 : 16 ≤ n
      · have g1 : (16 : Int) ≤ (n : Int) := by omega
        by_cases f2 : c < n
        · have g2 : (c : Int) < (n : Int) := by omega
          have SE : Hid (best L (l.take (q + 1)) = (a', n)) := by show _ = _; rw [SN.out, if_pos ⟨f1, f2⟩]
          clear f1 f2 SN
          go_wp2
          go_roundw
          case rel => exact ⟨q + 1, a', n, by omega, by go_num, rfl, rfl, SE, L6⟩
          case measure => simp [intOf]; omega
        · have g2 : (n : Int) ≤ (c : Int) := by omega
          have SE : Hid (best L (l.take (q + 1)) = (a, c)) := by show _ = _; rw [SN.out, if_neg (fun h => f2 h.2)]
          clear f1 f2 SN
          go_wp2
          go_roundw
          case rel => exact ⟨q + 1, a, c, by omega, by go_num, rfl, rfl, SE, L6⟩
          case measure => simp [intOf]; omega
      · have g1 : (n : Int) < 16 := by omega
        have SE : Hid (best L (l.take (q + 1)) = (a, c)) := by show _ = _; rw [SN.out, if_neg (fun h => f1 h.1)]
        clear f1 SN
        go_wp2
        go_roundw
        case rel => exact ⟨q + 1, a, c, by omega, by go_num, rfl, rfl, SE, L6⟩
        case measure => simp [intOf]; omega
    · have e : q = l.length := by omega
      subst e
      have E2 : Hid ((a, c) = (x0, y0)) := by show _ = _; rw [← hE.out, ← HF2.out, best_all]
      have LL : Hid (Below w.heap.size w wr) := HB1.out.trans (hLw.out.mono HB1.out.size)
      clear hE MEM C2 HC
      go_wp2
      go_ret2
      have e1 := E2.out
      injection e1 with e1 e2
      exact ⟨by rw [e1, e2]; rfl, LL.out⟩
end Go.Proofs.Ytekeaoolodmdaaa.Mt
