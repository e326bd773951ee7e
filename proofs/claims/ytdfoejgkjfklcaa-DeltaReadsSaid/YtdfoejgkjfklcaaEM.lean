import Derived.Test.YtdfoejgkjfklcaaEP
import Derived.Test.YtdfoejgkjfklcaaEG
import Derived.Test.YtdfoejgkjfklcaaEH
/- What any bytes say, and what they make of a base, is the document's. -/
namespace Go.Proofs.Ytdfoejgkjfklcaa
set_option maxRecDepth 100000
open Go.RowKit
set_option maxHeartbeats 1000000 in
theorem qapply_any (B d : List UInt8) (w : World) (hB : B.length ≤ 1000000) (hl : d.length ≤ 50000) :
    Calls Try.prog 13 #[.string (bs B), .string (bs d)] w fun e w' => e = .returned (.tuple #[.string (bs (aRes B d).1), .int .i64 (aRes B d).2]) ∧ Below w.heap.size w w' := by
  have C1 : Hid (∀ W, _) := Lib.hid (fun W => qread_any d W hl)
  have hz := bs_size B
  unfold aRes
  cases hd : dRead d with
  | none =>
    dsimp only
    rw [hd] at C1
    have e0 : bs [] = ⟨#[]⟩ := rfl
    rw [e0]
    generalize bs B = sB at *
    generalize bs d = sd at *
    clear hz hB hl hd
    go_enter Try.func13, Try.ntmps13
    go_wp2_with fail
    refine (C1.out _).mono ?_
    rintro e w1 ⟨he, B1⟩
    have he2 : e = .returned (.tuple #[.int .i64 0, .slice none 0 0, .bool false]) := he
    subst he2
    have L1 := Lib.hid B1
    clear he B1 C1
    go_wp2
    go_ret2
    exact ⟨rfl, L1.out⟩
  | some x =>
    obtain ⟨b, l⟩ := x
    obtain ⟨hb, hg, hs⟩ := dRead_good hd
    dsimp only
    rw [hd] at C1
    by_cases c : B.length = b
    · rw [if_pos c]
      subst c
      have C2 : Hid (∀ W v, RowZ W v l → Calls Try.prog 31 #[.string (bs B), v] W fun e w' => e = .returned (.tuple #[.string (bs (tzs B l)), .int .i64 0]) ∧ Below W.heap.size W w') := fun W v h => qtext_any B l v W hb h hg (fun x hx => good_small hb (hg x hx)) hs
      have ht : ((bs B).size : Int) = (B.length : Int) := by rw [hz]
      generalize bs B = sB at *
      generalize bs d = sd at *
      generalize bs (tzs B l) = st at *
      clear hB hl hd hb hg hs
      go_enter Try.func13, Try.ntmps13
      go_wp2_with fail
      refine (C1.out _).mono ?_
      rintro e w1 ⟨⟨v, he, hO⟩, B1⟩
      have he2 : e = .returned (.tuple #[.int .i64 (B.length : Int), v, .bool true]) := he
      subst he2
      have L1 := Lib.hid B1
      have R1 : Hid (RowZ w1 v l) := hO.row
      clear he hO B1 C1
      go_wp2_with fail
      refine (C2.out _ _ R1.out).mono ?_
      rintro e w2 ⟨rfl, B2⟩
      have L2 := Lib.hid (L1.out.trans (B2.mono L1.out.size))
      clear B2 C2
      go_wp2
      go_ret2
      exact ⟨rfl, L2.out⟩
    · rw [if_neg c]
      have e0 : bs [] = ⟨#[]⟩ := rfl
      dsimp only
      rw [e0]
      have h2 : ¬ ((b : Int) = (B.length : Int)) := by omega
      have ht : ((b : Int) != ((bs B).size : Int)) = true := by rw [hz]; simpa using h2
      generalize bs B = sB at *
      generalize bs d = sd at *
      clear hB hl hd hb hg hs hz c h2
      go_enter Try.func13, Try.ntmps13
      go_wp2_with fail
      refine (C1.out _).mono ?_
      rintro e w1 ⟨⟨v, he, hO⟩, B1⟩
      have he2 : e = .returned (.tuple #[.int .i64 (b : Int), v, .bool true]) := he
      subst he2
      have L1 := Lib.hid B1
      clear he hO B1 C1
      go_wp2
      go_ret2
      exact ⟨rfl, L1.out⟩
theorem reads_long (B s : ByteArray) (w : World) (h : 5000 < B.size ∨ 2000 < s.size) : Calls Try.prog 4 #[.string B, .string s] w fun e w' => e = .returned (.bool true) ∧ Below w.heap.size w w' := by
  have C1 : Hid (∀ W, _) := Lib.hid alive_any
  by_cases h1 : 5000 < B.size
  · have t1 : (5000 : Int) < (B.size : Int) := by omega
    clear h h1
    go_enter Try.func4, Try.ntmps4
    go_wp2_with fail
    refine (C1.out _).mono ?_
    rintro e w1 ⟨rfl, B1⟩
    have L1 := Lib.hid B1
    clear B1
    go_wp2_with fail
    refine (C1.out _).mono ?_
    rintro e w2 ⟨rfl, B2⟩
    have L2 := Lib.hid (L1.out.trans (B2.mono L1.out.size))
    clear B2
    go_wp2
    go_ret
    exact ⟨rfl, L2.out⟩
  · have t1 : (B.size : Int) ≤ 5000 := by omega
    have t2 : (2000 : Int) < (s.size : Int) := by omega
    clear h h1
    go_enter Try.func4, Try.ntmps4
    go_wp2_with fail
    refine (C1.out _).mono ?_
    rintro e w1 ⟨rfl, B1⟩
    have L1 := Lib.hid B1
    clear B1
    go_wp2_with fail
    refine (C1.out _).mono ?_
    rintro e w2 ⟨rfl, B2⟩
    have L2 := Lib.hid (L1.out.trans (B2.mono L1.out.size))
    clear B2
    go_wp2
    go_ret
    exact ⟨rfl, L2.out⟩
/- the six answers, of which the program's are held against the reference's -/
def Both (b : Int) (l : List Pz) (er : Int) (ok : Bool) (w0 : Nat) (v : Value) (e : Ending) (w' : World) : Prop := e = .returned (.tuple #[.int .i64 b, v, .int .i64 er]) ∧ OwnZ w' w0 v l ∧ ok = (er == 0)
set_option maxHeartbeats 1000000 in
theorem reads_any' (B d : List UInt8) (w : World) (b : Int) (l : List Pz) (er : Int) (ok : Bool) (her : (er = 0 ∧ ok = true) ∨ (er = 2 ∧ ok = false)) (hB : B.length ≤ 5000) (hd : d.length ≤ 2000) (hsm : ∀ x ∈ l, small x) (hll : l.length ≤ 1000000)
    (D1 : ∀ W, Calls Try.prog 10 #[.string (bs d)] W fun e w' => (∃ v, e = .returned (.tuple #[.int .i64 b, v, .int .i64 er]) ∧ RowZ w' v l) ∧ Below W.heap.size W w')
    (D2 : ∀ W, Calls Try.prog 11 #[.string (bs d)] W fun e w' => (∃ v, e = .returned (.tuple #[.int .i64 b, v, .bool ok]) ∧ RowZ w' v l) ∧ Below W.heap.size W w') :
    Calls Try.prog 4 #[.string (bs B), .string (bs d)] w fun e w' => e = .returned (.bool true) ∧ Below w.heap.size w w' := by
  have C1 : Hid (∀ W, _) := Lib.hid alive_any
  have HD1 := Lib.hid D1
  have HD2 := Lib.hid D2
  have D3 : Hid (∀ W, _) := Lib.hid (fun W => apply_any B d W (by omega) (by omega))
  have D4 : Hid (∀ W, _) := Lib.hid (fun W => qapply_any B d W (by omega) (by omega))
  have D5 : Hid (∀ W u v, RowZ W u l → RowZ W v l → Calls Try.prog 8 #[u, v] W fun e w' => e = .returned (.bool true) ∧ Below W.heap.size W w') := fun W u v h1 h2 => same_any l u v W h1 h2 hsm hll
  have zB := bs_size B
  have zd := bs_size d
  have t1 : ((bs B).size : Int) ≤ 5000 := by omega
  have t2 : ((bs d).size : Int) ≤ 2000 := by omega
  generalize bs B = sB at *
  generalize bs d = sd at *
  generalize bs (aRes B d).1 = st at *
  generalize (aRes B d).2 = sr at *
  clear hB hd hsm hll D1 D2 zB zd
  rcases her with ⟨rfl, rfl⟩ | ⟨rfl, rfl⟩
  all_goals
    go_enter Try.func4, Try.ntmps4
    go_wp2_with fail
    refine (C1.out _).mono ?_
    rintro e w1 ⟨rfl, B1⟩
    have L1 := Lib.hid B1
    clear B1
    go_wp2_with fail
    refine (HD1.out _).mono ?_
    rintro e w2 ⟨⟨u, rfl, R2⟩, B2⟩
    have HR2 := Lib.hid R2
    have L2 := Lib.hid (L1.out.trans (B2.mono L1.out.size))
    clear B2 R2 HD1 L1
    go_wp2_with fail
    refine (HD2.out _).mono ?_
    rintro e w3 ⟨⟨v, rfl, R3⟩, B3⟩
    have HR3 := Lib.hid R3
    have HU3 : Hid (RowZ w3 u l) := HR2.out.below B3
    have L3 := Lib.hid (L2.out.trans (B3.mono L2.out.size))
    clear B3 R3 HD2 L2 HR2
    go_wp2_with fail
    refine (D3.out _).mono ?_
    rintro e w4 ⟨rfl, B4⟩
    have HV4 : Hid (RowZ w4 v l) := HR3.out.below B4
    have HU4 : Hid (RowZ w4 u l) := HU3.out.below B4
    have L4 := Lib.hid (L3.out.trans (B4.mono L3.out.size))
    clear B4 D3 L3 HR3 HU3
    go_wp2_with fail
    refine (D4.out _).mono ?_
    rintro e w5 ⟨rfl, B5⟩
    have HV5 : Hid (RowZ w5 v l) := HV4.out.below B5
    have HU5 : Hid (RowZ w5 u l) := HU4.out.below B5
    have L5 := Lib.hid (L4.out.trans (B5.mono L4.out.size))
    clear B5 D4 L4 HV4 HU4
    go_wp2_with fail
    refine (C1.out _).mono ?_
    rintro e w6 ⟨rfl, B6⟩
    have HV6 : Hid (RowZ w6 v l) := HV5.out.below B6
    have HU6 : Hid (RowZ w6 u l) := HU5.out.below B6
    have L6 := Lib.hid (L5.out.trans (B6.mono L5.out.size))
    clear B6 C1 L5 HV5 HU5
    go_wp2_with fail
    refine (D5.out _ _ _ HU6.out HV6.out).mono ?_
    rintro e w7 ⟨rfl, B7⟩
    have L7 := Lib.hid (L6.out.trans (B7.mono L6.out.size))
    clear B7 D5 L6 HV6 HU6
    go_wp2
    go_ret
    exact ⟨rfl, L7.out⟩
theorem deltareads_any (B s : ByteArray) (w : World) : Calls Try.prog 4 #[.string B, .string s] w fun e w' => e = .returned (.bool true) ∧ Below w.heap.size w w' := by
  by_cases h : 5000 < B.size ∨ 2000 < s.size
  · exact reads_long B s w h
  · have hB : B.data.toList.length ≤ 5000 := by rw [len_of]; omega
    have hs : s.data.toList.length ≤ 2000 := by rw [len_of]; omega
    have key : Calls Try.prog 4 #[.string (bs B.data.toList), .string (bs s.data.toList)] w fun e w' => e = .returned (.bool true) ∧ Below w.heap.size w w' := by
      generalize B.data.toList = Bl at *
      generalize s.data.toList = d at *
      cases hd : dRead d with
      | none =>
        refine reads_any' Bl d w 0 [] 2 false (Or.inr ⟨rfl, rfl⟩) hB hs (fun x hx => by simp at hx) (by simp) (fun W => ?_) (fun W => ?_)
        · refine (read_any d W (by omega)).mono ?_
          rintro e w' ⟨h1, h2⟩
          rw [hd] at h1
          exact ⟨⟨_, h1, (OwnZ.nil w' 0).row⟩, h2⟩
        · refine (qread_any d W (by omega)).mono ?_
          rintro e w' ⟨h1, h2⟩
          rw [hd] at h1
          exact ⟨⟨_, h1, (OwnZ.nil w' 0).row⟩, h2⟩
      | some x =>
        obtain ⟨b, l⟩ := x
        obtain ⟨hb, hg, hsz⟩ := dRead_good hd
        have hge := szs_ge hg
        refine reads_any' Bl d w b l 0 true (Or.inl ⟨rfl, rfl⟩) hB hs (fun x hx => good_small hb (hg x hx)) (by omega) (fun W => ?_) (fun W => ?_)
        · refine (read_any d W (by omega)).mono ?_
          rintro e w' ⟨h1, h2⟩
          rw [hd] at h1
          obtain ⟨v, hv, hO⟩ := h1
          exact ⟨⟨v, hv, hO.row⟩, h2⟩
        · refine (qread_any d W (by omega)).mono ?_
          rintro e w' ⟨h1, h2⟩
          rw [hd] at h1
          obtain ⟨v, hv, hO⟩ := h1
          exact ⟨⟨v, hv, hO.row⟩, h2⟩
    rw [bs_of, bs_of] at key
    exact key
end Go.Proofs.Ytdfoejgkjfklcaa
