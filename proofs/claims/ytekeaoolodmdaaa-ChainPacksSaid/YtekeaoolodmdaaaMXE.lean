import Derived.Test.YtekeaoolodmdaaaMXD
/- The document's answer: Places. -/
namespace Go.Proofs.Ytekeaoolodmdaaa.Mt
set_option maxRecDepth 100000
open Go.RowKit
theorem row_mono {w : World} {b b' : Nat} {e : TypeId} {size : Nat} {v : Value} {n : Nat} {xs : List Value} (h : w.ownsRow b e size v n xs) (hb : b' ≤ b) : w.ownsRow b' e size v n xs :=
  ⟨h.1, h.2.imp id fun ⟨g, cap, cur, a, c, d⟩ => ⟨g, cap, cur, a, Nat.le_trans hb c, d⟩⟩
theorem pl_stay {f : Nat → UInt8} {x : Int × Int} {q n : Nat} (h : ¬ (pl f x q).length < 8) (hn : q ≤ n) : pl f x n = pl f x q := by
  induction n with
  | zero => rw [show q = 0 by omega]
  | succ n ih =>
    by_cases e : q = n + 1
    · rw [e]
    · rw [pl_succ, ih (by omega), if_neg (fun c => h c.2)]
theorem app_int {B : Nat} {w0 w : World} {v : Value} {l : List Nat} (ho : w.ownsRow B 3 1 v l.length (iv l)) (hB : B ≤ w.heap.size) (hL : Below B w0 w) (k : Nat) (hn : l.length ≤ 1000) :
    ∃ g cap w', (Builtin.append_ #[30, 30] 30 #[v, .slice (some ⟨w.heap.size, 0, none⟩) 1 1]).run Try.prog (w.alloc (.cells #[.int .i64 (k : Int)] 3)) = .ok (.slice (some ⟨g, 0, none⟩) (l.length + 1) cap) w' ∧
      w'.ownsRow B 3 1 (.slice (some ⟨g, 0, none⟩) (l.length + 1) cap) (l ++ [k]).length (iv (l ++ [k])) ∧ Below B w0 w' := by
  obtain ⟨i0, hi, hz0, hz1, hz2⟩ := info_parts i_int
  obtain ⟨g, cap, w', hr, ho', hg, hat, hlt⟩ := run_append_lies (P := Try.prog) (w.alloc (.cells #[.int .i64 (k : Int)] 3)) 30 30 B 3 i0 (.int .i64 0) 1 8 tints hi hz0 hz1 hz2 rfl (by decide) v l.length (iv l) (ho.alloc _) ⟨w.heap.size, 0, none⟩ 1 1 [.int .i64 (k : Int)] rfl
    (World.news_of_block (heap_alloc_new _ _)) (by intro u hu; simp at hu; subst hu; rfl) (by decide) (by unfold maxLen; omega) (by omega) (by simp; omega) (w.heap.size + 1) (by simp)
  refine ⟨g, cap, w', hr, ?_, (hL.alloc hB _).grown hg (by simp; omega) (fun k hk => (ho.lt k hk).1)⟩
  rw [iv_snoc, List.length_append]
  exact ho'
set_option maxHeartbeats 2000000 in
theorem qplaces_any (B s : ByteArray) (at_ : Int) (w : World) (hB : B.size ≤ 1000000) (hs : s.size ≤ 1000000) :
    Calls Try.prog 53 #[.string B, .string s, .int .i64 at_] w fun e w' => ∃ v, e = .returned v ∧ w'.ownsRow w.heap.size 3 1 v (tri (sAt B) B.size (sAt s) s.size at_).length (iv (tri (sAt B) B.size (sAt s) s.size at_)) ∧ Below w.heap.size w w' := by
  have w1 : IntKind.i64.wrap ((s.size : Int) - 16) = (s.size : Int) - 16 := IntWalk.i64_in _ (by omega)
  by_cases c1 : at_ < 0
  · rw [tri_out (.inl c1)]
    have d1 : decide (at_ < 0) = true := decide_eq_true c1
    clear hB hs c1
    go_enter Try.func53, Try.ntmps53
    go_wp2
    go_ret
    exact ⟨_, rfl, World.ownsRow_nil _ _ _ _, Below.refl _ _⟩
  · have d1 : decide (at_ < 0) = false := decide_eq_false c1
    by_cases c2 : (s.size : Int) < at_ + 16
    · rw [tri_out (.inr c2)]
      have d2 : decide ((s.size : Int) - 16 < at_) = true := decide_eq_true (by omega)
      clear hB hs c1 c2
      go_enter Try.func53, Try.ntmps53
      go_wp2
      go_ret
      exact ⟨_, rfl, World.ownsRow_nil _ _ _ _, Below.refl _ _⟩
    · have d2 : decide ((s.size : Int) - 16 < at_) = false := decide_eq_false (by omega)
      obtain ⟨k, rfl⟩ : ∃ k : Nat, at_ = (k : Int) := ⟨at_.toNat, by omega⟩
      have hk : k + 16 ≤ s.size := by omega
      rw [tri_in k hk]
      obtain ⟨f, hf⟩ : ∃ f, f = sAt B := ⟨_, rfl⟩
      obtain ⟨n, hn⟩ : ∃ n, n = B.size - 15 := ⟨_, rfl⟩
      have C1 : Hid (∀ W : World, Calls Try.prog 68 #[.string s, .int .i64 (k : Int)] W fun e w' => e = .returned (.tuple #[.int .i64 (num (sAt s) k).1, .int .i64 (num (sAt s) k).2]) ∧ Below W.heap.size W w') := fun W => parts_any s k (sh (sAt s) k) W hk hs fun i hi => rfl
      have C2 : Hid (∀ (q : Nat), q + 16 ≤ B.size → ∀ W : World, Calls Try.prog 68 #[.string B, .int .i64 (q : Int)] W fun e w' => e = .returned (.tuple #[.int .i64 (num f q).1, .int .i64 (num f q).2]) ∧ Below W.heap.size W w') := fun q hq W => by
        rw [hf]; exact parts_any B q (sh (sAt B) q) W hq hB fun i hi => rfl
      obtain ⟨X, hX⟩ : ∃ X, X = num (sAt s) k := ⟨_, rfl⟩
      rw [← hf, ← hn, ← hX]
      rw [← hX] at C1
      obtain ⟨x, y⟩ := X
      have HS : Hid (n = B.size - 15 ∧ B.size ≤ 1000000) := ⟨hn, hB⟩
      have STEP : Hid (∀ q, (pl f (x, y) q).length < 8 → num f q = (x, y) → pl f (x, y) (q + 1) = pl f (x, y) q ++ [q]) := fun q h e => by rw [pl_succ, if_pos ⟨e, h⟩]
      have STAY : Hid (∀ q, ¬ (num f q = (x, y)) → pl f (x, y) (q + 1) = pl f (x, y) q) := fun q e => by rw [pl_succ, if_neg (fun h => e h.1)]
      have DONE : Hid (∀ q, q ≤ n → (¬ (pl f (x, y) q).length < 8 ∨ q = n) → pl f (x, y) n = pl f (x, y) q) := fun q hq h => by
        rcases h with h | h
        · exact pl_stay h hq
        · rw [h]
      have LEN : Hid (∀ q, (pl f (x, y) q).length ≤ 8) := fun q => pl_len _ _ _
      obtain ⟨P, hP⟩ : ∃ P, P = pl f (x, y) := ⟨_, rfl⟩
      rw [← hP] at STEP STAY DONE LEN ⊢
      have P0 : Hid (P 0 = []) := by show _ = _; rw [hP]; rfl
      clear hf hn hX hB hs c1 c2 hk hP
      go_enter Try.func53, Try.ntmps53
      go_wp2_with fail
      refine (C1.out _).mono ?_
      rintro e w2 ⟨rfl, B1⟩
      have HB := Lib.hid B1
      clear B1 C1
      go_wp2
      go_loopw [9, 10] (fun v i wr => ∃ (q ln cap : Nat) (ad : Option Addr), q ≤ n ∧ i = .int .i64 (q : Int) ∧ v = .slice ad ln cap ∧ Hid (ln = (P q).length) ∧ Hid (wr.ownsRow w.heap.size 3 1 (.slice ad ln cap) (P q).length (iv (P q))) ∧ Hid (Below w.heap.size w wr)) (fun _ i _ => n - (intOf i).toNat)
      case atStart => exact ⟨0, 0, 0, none, Nat.zero_le _, rfl, rfl, by show 0 = _; rw [P0.out]; rfl, by show World.ownsRow _ _ _ _ _ _ _; rw [P0.out]; exact World.ownsRow_nil _ _ _ _, HB⟩
      case round =>
        obtain ⟨q, ln, cap, ad, hq, rfl, rfl, hln, hO, hL⟩ := hrel
        have z := HS.out
        have w3 : IntKind.i64.wrap ((q : Int) + 16) = (q : Int) + 16 := IntWalk.i64_in _ (by omega)
        have w4 : IntKind.i64.wrap ((q : Int) + 1) = (q : Int) + 1 := IntWalk.i64_in _ (by omega)
        by_cases f1 : q < n
        · have d3 : decide ((q : Int) + 16 ≤ (B.size : Int)) = true := decide_eq_true (by omega)
          by_cases f2 : ln < 8
          · have d4 : decide ((ln : Int) < 8) = true := decide_eq_true (by omega)
            have C3 := C2.out q (by omega)
            obtain ⟨a, ha⟩ : ∃ a, a = (num f q).1 := ⟨_, rfl⟩
            obtain ⟨c, hc⟩ : ∃ c, c = (num f q).2 := ⟨_, rfl⟩
            have en : num f q = (a, c) := by rw [ha, hc]
            rw [← ha, ← hc] at C3
            have C3' := Lib.hid C3
            have l8 : (P q).length < 8 := by rw [← hln.out]; exact f2
            by_cases ex : a = x
            · subst ex
              by_cases ey : c = y
              · subst ey
                have SE := Lib.hid (STEP.out q l8 en)
                clear z f2 C3 ha hc en hq
                go_wp2_with fail
                refine (C3'.out _).mono ?_
                rintro e w5 ⟨rfl, B5⟩
                have L5 := hL.out.trans (B5.mono hL.out.size)
                obtain ⟨g, cap2, w6, hap, hO6, hL6⟩ := app_int (owns_below (row_mono hO.out (Nat.le_refl _)) B5) L5.size L5 q (by have := LEN.out q; omega)
                have l9 := hln.out
                rw [← l9] at hap hO6
                have H6 : Hid (w6.ownsRow w.heap.size 3 1 (.slice (some ⟨g, 0, none⟩) (ln + 1) cap2) (P (q + 1)).length (iv (P (q + 1)))) := by
                  show World.ownsRow _ _ _ _ _ _ _
                  rw [SE.out]; exact hO6
                have HL := Lib.hid hL6
                have HN : Hid (ln + 1 = (P (q + 1)).length) := by show _ = _; rw [SE.out, List.length_append, ← l9]; rfl
                clear hO6 hL6 B5 L5 C3' l9 l8 hO hL hln
                go_wp2_with (at_builtin; refine wpList_append_run rfl (.tmp 54) (.tmp 56) 30 30 rfl _ _ _ _ rfl rfl hap ?_)
                go_roundw
                case rel => exact ⟨q + 1, ln + 1, cap2, some ⟨g, 0, none⟩, by omega, by go_num, by simp, HN, H6, HL⟩
                case measure => simp [intOf]; omega
              · have SE := Lib.hid (STAY.out q (by rw [en]; simp [ey]))
                have t3 : (c == y) = false := by simp [ey]
                clear z f2 C3 ha hc en hq ey
                go_wp2_with fail
                refine (C3'.out _).mono ?_
                rintro e w5 ⟨rfl, B5⟩
                have HL : Hid (Below w.heap.size w w5) := hL.out.trans (B5.mono hL.out.size)
                have H6 : Hid (w5.ownsRow w.heap.size 3 1 (.slice ad ln cap) (P (q + 1)).length (iv (P (q + 1)))) := by
                  show World.ownsRow _ _ _ _ _ _ _
                  rw [SE.out]; exact owns_below hO.out B5
                have HN : Hid (ln = (P (q + 1)).length) := by show _ = _; rw [SE.out]; exact hln.out
                clear B5 C3' l8 hO hL hln
                go_wp2
                go_roundw
                case rel => exact ⟨q + 1, ln, cap, ad, by omega, by go_num, rfl, HN, H6, HL⟩
                case measure => simp [intOf]; omega
            · have SE := Lib.hid (STAY.out q (by rw [en]; simp [ex]))
              have t3 : (a == x) = false := by simp [ex]
              clear z f2 C3 ha hc en hq ex
              go_wp2_with fail
              refine (C3'.out _).mono ?_
              rintro e w5 ⟨rfl, B5⟩
              have HL : Hid (Below w.heap.size w w5) := hL.out.trans (B5.mono hL.out.size)
              have H6 : Hid (w5.ownsRow w.heap.size 3 1 (.slice ad ln cap) (P (q + 1)).length (iv (P (q + 1)))) := by
                show World.ownsRow _ _ _ _ _ _ _
                rw [SE.out]; exact owns_below hO.out B5
              have HN : Hid (ln = (P (q + 1)).length) := by show _ = _; rw [SE.out]; exact hln.out
              clear B5 C3' l8 hO hL hln
              go_wp2
              go_roundw
              case rel => exact ⟨q + 1, ln, cap, ad, by omega, by go_num, rfl, HN, H6, HL⟩
              case measure => simp [intOf]; omega
          · have d4 : decide ((ln : Int) < 8) = false := decide_eq_false (by omega)
            have D := Lib.hid (DONE.out q hq (.inl (by rw [← hln.out]; exact f2)))
            clear z f1 f2 hq w4 C2 STEP STAY
            go_wp2
            go_ret
            refine ⟨_, rfl, ?_, hL.out⟩
            rw [D.out]
            exact hO.out
        · have d3 : decide ((q : Int) + 16 ≤ (B.size : Int)) = false := decide_eq_false (by omega)
          have D := Lib.hid (DONE.out q hq (.inr (by omega)))
          clear z f1 hq w4 C2 STEP STAY
          go_wp2
          go_ret
          refine ⟨_, rfl, ?_, hL.out⟩
          rw [D.out]
          exact hO.out
end Go.Proofs.Ytekeaoolodmdaaa.Mt
