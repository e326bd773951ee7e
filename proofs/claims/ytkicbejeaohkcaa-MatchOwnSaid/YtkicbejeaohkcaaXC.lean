import Derived.Test.YtkicbejeaohkcaaXB
import Derived.Lib.SliceRun
/- The places, copied. -/
namespace Go.Proofs.Ytkicbejeaohkcaa
open Go.RowKit
theorem row_mono {w : World} {b b' : Nat} {e : TypeId} {size : Nat} {v : Value} {n : Nat} {xs : List Value} (h : w.ownsRow b e size v n xs) (hb : b' ≤ b) : w.ownsRow b' e size v n xs :=
  ⟨h.1, h.2.imp id fun ⟨g, cap, cur, a, c, d⟩ => ⟨g, cap, cur, a, Nat.le_trans hb c, d⟩⟩
theorem qnil : ∀ (w : World) (a : Option Addr) (n c n' c' : Nat), (binOp .eql 28 (.slice a n c) (.slice none n' c')).run Try.prog w = .ok (.bool a.isNone) w := fun w a n c n' c' => Lib.run_eql_slice_nil w _ _ a n c n' c' tints
theorem nclone_nil (w : World) : Calls Try.prog 19 #[.slice none 0 0] w fun e w' => e = .returned (.slice none 0 0) ∧ w = w' := by
  have q34 := qnil
  go_enter Try.func19, Try.ntmps19
  go_wp2
  go_ret
  exact ⟨rfl, rfl⟩
set_option maxHeartbeats 1000000 in
theorem nclone_some {w : World} {b g cap : Nat} {l : List Nat} (h : w.ownsRow b 3 1 (.slice (some ⟨g, 0, none⟩) l.length cap) l.length (iv l)) (hl : l ≠ []) (h8 : l.length ≤ 1000) :
    Calls Try.prog 19 #[.slice (some ⟨g, 0, none⟩) l.length cap] w fun e w' => ∃ v, e = .returned v ∧ w'.ownsRow w.heap.size 3 1 v l.length (iv l) ∧ Below w.heap.size w w' := by
  have h0 : 0 < l.length := List.length_pos_iff.2 hl
  obtain ⟨i0, hi, hz0, hz1, hz2⟩ := info_parts i_int
  have ho := World.ownsRow_lit (base := w.heap.size) (size := 1) (e := 3) w #[] 0 (Nat.le_refl _) (Nat.zero_le _) rfl
  obtain ⟨g2, cap2, w2, hr, ho2, hg, hat, hlt⟩ := run_append_lies (P := Try.prog) (w.alloc (.cells #[] 3)) 28 28 w.heap.size 3 i0 (.int .i64 0) 1 8 tints hi hz0 hz1 hz2 rfl (by decide) (.slice (some ⟨w.heap.size, 0, none⟩) 0 0) 0 [] ho ⟨g, 0, none⟩ l.length cap (iv l) (by rw [iv_len]; omega)
    (fun j u hu => (h.alloc _).cells rfl j u hu) (by intro u hu; simp [iv] at hu; obtain ⟨j, _, rfl⟩ := hu; rfl) h0 (by unfold maxLen; omega) (by omega) (by simp) (w.heap.size + 1) (by simp)
  rw [Nat.zero_add, List.nil_append] at ho2
  rw [Nat.zero_add] at hr
  have HO := Lib.hid ho2
  have HB : Hid (Below w.heap.size w w2) := ((Below.refl _ _).alloc (Nat.le_refl _) _).grown hg (by simp) (fun k hk => by simp [Value.ownBlock] at hk; omega)
  clear ho ho2 hg hat hlt h hl h8 h0
  have q34 := qnil
  go_enter Try.func19, Try.ntmps19
  go_wp2_with (at_builtin; refine wpList_append_run rfl (.tmp 5) (.tmp 6) 28 28 rfl _ _ _ _ rfl rfl hr ?_)
  go_ret
  exact ⟨_, rfl, HO.out, HB.out⟩
theorem places_any {w : World} {b p : Nat} {B : ByteArray} (h : Ix w b p B) (s : ByteArray) (at_ : Int) (hs : s.size ≤ 1000000) :
    Calls Try.prog 11 #[.pointer (some ⟨p, 0, none⟩), .string s, .int .i64 at_] w fun e w' => ∃ v, e = .returned v ∧ w'.ownsRow w.heap.size 3 1 v (tri (sAt B) B.size (sAt s) s.size at_).length (iv (tri (sAt B) B.size (sAt s) s.size at_)) ∧ Below w.heap.size w w' := by
  have C1 := tries_any h s at_ hs
  have LEN : Hid ((tri (sAt B) B.size (sAt s) s.size at_).length ≤ 8) := tri_len _ _ _ _ _
  obtain ⟨l, hl⟩ : ∃ l, l = tri (sAt B) B.size (sAt s) s.size at_ := ⟨_, rfl⟩
  rw [← hl] at C1 LEN ⊢
  clear hl h hs
  go_enter Try.func11, Try.ntmps11
  go_wp2_with fail
  refine C1.mono ?_
  rintro e w1 ⟨v, rfl, hO, hE, B1⟩
  by_cases hn : l = []
  · obtain rfl := hE hn
    have HB := Lib.hid B1
    have HN := Lib.hid hn
    clear hO hE B1 hn C1
    go_wp2_with fail
    refine (nclone_nil _).mono ?_
    rintro e w2 ⟨rfl, rfl⟩
    go_wp2
    go_ret
    refine ⟨_, rfl, ?_, HB.out⟩
    rw [HN.out]
    exact World.ownsRow_nil _ _ _ _
  · obtain ⟨g, cap, rfl, _⟩ := hO.form (List.length_pos_iff.2 hn)
    have C2 := nclone_some hO hn (by have := LEN.out; omega)
    have HB := Lib.hid B1
    clear hO hE B1 hn C1
    go_wp2_with fail
    refine C2.mono ?_
    rintro e w2 ⟨v, rfl, hO, B2⟩
    have HO := Lib.hid hO
    have HB2 := Lib.hid B2
    clear hO B2 C2
    go_wp2
    go_ret
    exact ⟨_, rfl, row_mono HO.out HB.out.size, HB.out.trans (HB2.out.mono HB.out.size)⟩
theorem places_nil (s : ByteArray) (at_ : Int) (w : World) : Calls Try.prog 11 #[.pointer none, .string s, .int .i64 at_] w fun e w' => e = .returned (.slice none 0 0) ∧ w = w' := by
  go_enter Try.func11, Try.ntmps11
  go_wp2_with fail
  refine (tries_nil s at_ _).mono ?_
  rintro e w2 ⟨rfl, rfl⟩
  go_wp2_with fail
  refine (nclone_nil _).mono ?_
  rintro e w2 ⟨rfl, rfl⟩
  go_wp2
  go_ret
  exact ⟨rfl, rfl⟩
theorem find_nil (s : ByteArray) (at_ : Int) (w : World) : Calls Try.prog 9 #[.pointer none, .string s, .int .i64 at_] w fun e w' => e = .returned (.tuple #[.int .i64 0, .int .i64 0]) ∧ w = w' := by
  go_enter Try.func9, Try.ntmps9
  go_wp2_with fail
  refine (tries_nil s at_ _).mono ?_
  rintro e w2 ⟨rfl, rfl⟩
  go_wp2
  refine wp_loop_rounds 1 ?_
  rw [rounds_succ]
  go_wp2
  go_ret2
  exact ⟨rfl, rfl⟩
end Go.Proofs.Ytkicbejeaohkcaa
