import Derived.Test.YtlbclfponongbaaO22
/- The object of a frame: the program's walk. -/
namespace Go.Proofs.Ytlbclfponongbaa
open Go.RowKit Classical
def kix (c : UInt8) : Int := if c = 98 then 1 else if c = 116 then 2 else if c = 99 then 3 else 0
theorem kix_index (c : UInt8) : Lib.indexByte [98, 116, 99] c = kix c - 1 := by
  unfold kix
  by_cases h1 : c = 98
  · subst h1; decide
  · by_cases h2 : c = 116
    · subst h2; decide
    · by_cases h3 : c = 99
      · subst h3; decide
      · have b1 : ((98 : UInt8) == c) = false := by simpa using fun h => h1 h.symm
        have b2 : ((116 : UInt8) == c) = false := by simpa using fun h => h2 h.symm
        have b3 : ((99 : UInt8) == c) = false := by simpa using fun h => h3 h.symm
        rw [if_neg h1, if_neg h2, if_neg h3]
        simp [Lib.indexByte, b1, b2, b3]
theorem kix_bound (c : UInt8) : 0 ≤ kix c ∧ kix c ≤ 3 := by
  unfold kix
  split
  · decide
  · split
    · decide
    · split <;> decide
theorem kix_lt {k : Int} (h : k = 1 ∨ k = 2 ∨ k = 3) : kix (lt k) = k := by rcases h with rfl | rfl | rfl <;> decide
theorem lt_kix {c : UInt8} (h : kix c ≠ 0) : lt (kix c) = c := by
  unfold kix at h ⊢
  by_cases h1 : c = 98
  · subst h1; decide
  · by_cases h2 : c = 116
    · subst h2; decide
    · by_cases h3 : c = 99
      · subst h3; decide
      · rw [if_neg h1, if_neg h2, if_neg h3] at h
        exact absurd rfl h
theorem obj_kind {k : Int} {l : List UInt8} (h : objOk k l) : k = 1 ∨ k = 2 ∨ k = 3 := by
  rcases h.2 with h | h | h
  · exact Or.inl h
  · exact Or.inr (Or.inl h.1)
  · exact Or.inr (Or.inr h.1)
/- the kind that the first letter says: of no letter the first -/
def kof (s : List UInt8) : Int := match s with | [c] => kix c | _ => 1
theorem kof_bound (s : List UInt8) : 0 ≤ kof s ∧ kof s ≤ 3 := by
  unfold kof
  split
  · exact kix_bound _
  · decide
theorem raw_one (f : List UInt8) {s : List UInt8} {p : Nat} {e : Int} (h : rRaw 1 f 0 0 = (s, p, e)) : (∃ c, s = [c]) ∨ s = [] := by
  unfold rRaw at h
  rw [if_neg (by simp), if_neg (by omega)] at h
  split at h
  · simp only [Prod.mk.injEq] at h
    exact Or.inr h.1.symm
  · rename_i hz
    simp only [Prod.mk.injEq] at h
    left
    rw [← h.1, List.drop_zero]
    cases f with
    | nil => simp at hz
    | cons c t => exact ⟨c, by simp⟩
/- an object of a frame -/
def IsFrame (f : List UInt8) (k : Int) (l : List UInt8) : Prop := objOk k l ∧ f = fb k l
theorem read_frame {f s b : List UInt8} {p p2 : Nat} {e e2 : Int} (h1 : rRaw 1 f 0 0 = (s, p, e)) (h2 : rText 4096 f p e = (b, p2, e2)) :
    (endOf f.length p2 e2 = 0 → objOk (kof s) b → IsFrame f (kof s) b) ∧ (∀ k l, IsFrame f k l → endOf f.length p2 e2 = 0 ∧ kof s = k ∧ b = l) := by
  have l1 : p ≤ f.length := by have := rRaw_le 1 f 0 0 (Nat.zero_le _); rw [h1] at this; exact this
  have l2 : p2 ≤ f.length := by have := rText_le 4096 f p e l1; rw [h2] at this; exact this
  refine ⟨fun h0 hok => ⟨hok, ?_⟩, fun k l hf => ?_⟩
  · unfold endOf at h0
    split at h0
    · rename_i h; exact absurd h0 h
    · rename_i h
      split at h0
      · omega
      · have e0 : e2 = 0 := by omega
        subst e0
        have hp : p2 = f.length := by omega
        have he : e = 0 := by
          by_cases c : e = 0
          · exact c
          · rw [text_err c] at h2
            simp only [Prod.mk.injEq] at h2
            exact absurd h2.2.2 c
        subst he
        obtain ⟨t1, -, -, -, -⟩ := text_there l1 h2
        obtain ⟨r1, r2, r3, r4⟩ := raw_there (Nat.zero_le _) (by omega) h1
        rw [hp, List.take_length, r1, List.take_zero, List.nil_append] at t1
        rcases raw_one f h1 with ⟨c, rfl⟩ | rfl
        · have hk : kix c ≠ 0 := by
            have := obj_kind hok
            show kof [c] ≠ 0
            omega
          unfold fb
          rw [show kof [c] = kix c from rfl, lt_kix hk]
          exact t1
        · simp at r2
  · obtain ⟨hok, hf⟩ := hf
    have hk := obj_kind hok
    have hl := hok.1
    have d0 : f.drop 0 = [lt k] ++ tx l := by rw [List.drop_zero, hf]; rfl
    have g1 := raw_read (n := 1) d0 (Nat.zero_le _) rfl
    rw [h1] at g1
    simp only [Prod.mk.injEq] at g1
    obtain ⟨a1, a2, a3⟩ := g1
    subst a1 a3
    have d1 : f.drop p = tx l ++ [] := by rw [a2, drop_add, d0]; simp
    have g2 := text_read (most := 4096) d1 l1 (by omega) (by omega)
    rw [h2] at g2
    simp only [Prod.mk.injEq] at g2
    obtain ⟨b1, b2, b3⟩ := g2
    have hlen := drop_len2 d1 l1
    rw [List.append_nil] at hlen
    refine ⟨?_, kix_lt hk, b1⟩
    unfold endOf
    rw [if_neg (by omega), if_neg (by omega)]
def isFrame (f : List UInt8) : Prop := ∃ k l, IsFrame f k l
set_option maxHeartbeats 1000000 in
set_option maxRecDepth 100000 in
theorem index_any (s : List UInt8) (h : (∃ c, s = [c]) ∨ s = []) (w : World) : Calls Try.prog 14 #[.string ⟨#[98, 116, 99]⟩, .string (bs s)] w fun e w' => e = .returned (.int .i64 (kof s - 1)) ∧ w' = w := by
  rcases h with ⟨c, rfl⟩ | rfl
  · have h := strings_Index_one ⟨#[98, 116, 99]⟩ c w
    rw [show (⟨#[98, 116, 99]⟩ : ByteArray).data.toList = [98, 116, 99] from rfl, kix_index] at h
    exact h
  · show Calls Try.prog 14 #[.string ⟨#[98, 116, 99]⟩, .string ⟨#[]⟩] w fun e w' => e = .returned (.int .i64 0) ∧ w' = w
    go_enter Try.func14, Try.ntmps14
    go_wp2
    all_goals go_ret
    all_goals exact ⟨rfl, rfl⟩
end Go.Proofs.Ytlbclfponongbaa
