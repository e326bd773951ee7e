import Derived.Test.YtnmjcpoobabjgaaGreatDoorO13m
import Derived.Laws.BitsAllLaws
import Derived.Laws.Shifts
import Derived.Test.YtnmjcpoobabjgaaGreatDoorProg
import Derived.WalkKit
import Derived.WalkSpells
import Derived.WalkLawsBesides
import Derived.WalkSmall
import Derived.Deep.Draws
import Derived.Deep.MidRow
import Derived.Laws.CopyOwn
import Derived.Deep.QuietTactic
import Derived.BigQuiet
import Derived.BigRegion
import Derived.StillTailTactics
import Derived.Deep.Cut
import Derived.Lib.SliceRun
set_option linter.unusedVariables false
set_option linter.unusedSimpArgs false
/- The object of a frame: the program's walk. -/
namespace Go.Proofs.YtnmjcpoobabjgaaGreatDoor
open Go.RowKit Classical
theorem szObject : (Tryz.prog.info? 43).map (·.size) = some 2 := by kernel_rfl
theorem ov_one (k : Int) (l : List UInt8) (i : Nat) : (ov k l i).oneCell' = true := by unfold ov; split <;> rfl
def kix (c : UInt8) : Int := if c = 98 then 1 else if c = 116 then 2 else if c = 99 then 3 else 0
theorem kix_index (c : UInt8) : Lib.indexByte [98, 116, 99] c = kix c - 1 := by
  unfold kix
  by_cases h1 : c = 98
  · subst h1; decide
  · by_cases h2 : c = 116
    · subst h2; decide
    · by_cases h3 : c = 99
      · subst h3; decide
      · have b1 : ((98 : UInt8) == c) = false := by simpa using fun h => h1 h.symm
        have b2 : ((116 : UInt8) == c) = false := by simpa using fun h => h2 h.symm
        have b3 : ((99 : UInt8) == c) = false := by simpa using fun h => h3 h.symm
        rw [if_neg h1, if_neg h2, if_neg h3]
        simp [Lib.indexByte, b1, b2, b3]
theorem kix_bound (c : UInt8) : 0 ≤ kix c ∧ kix c ≤ 3 := by
  unfold kix
  split
  · decide
  · split
    · decide
    · split <;> decide
theorem kix_lt {k : Int} (h : k = 1 ∨ k = 2 ∨ k = 3) : kix (lt k) = k := by rcases h with rfl | rfl | rfl <;> decide
theorem lt_kix {c : UInt8} (h : kix c ≠ 0) : lt (kix c) = c := by
  unfold kix at h ⊢
  by_cases h1 : c = 98
  · subst h1; decide
  · by_cases h2 : c = 116
    · subst h2; decide
    · by_cases h3 : c = 99
      · subst h3; decide
      · rw [if_neg h1, if_neg h2, if_neg h3] at h
        exact absurd rfl h
theorem obj_kind {k : Int} {l : List UInt8} (h : objOk k l) : k = 1 ∨ k = 2 ∨ k = 3 := by
  rcases h.2 with h | h | h
  · exact Or.inl h
  · exact Or.inr (Or.inl h.1)
  · exact Or.inr (Or.inr h.1)
/- the kind that the first letter says: of no letter the first -/
def kof (s : List UInt8) : Int := match s with | [c] => kix c | _ => 1
theorem kof_bound (s : List UInt8) : 0 ≤ kof s ∧ kof s ≤ 3 := by
  unfold kof
  split
  · exact kix_bound _
  · decide
theorem raw_one (f : List UInt8) {s : List UInt8} {p : Nat} {e : Int} (h : rRaw 1 f 0 0 = (s, p, e)) : (∃ c, s = [c]) ∨ s = [] := by
  unfold rRaw at h
  rw [if_neg (by simp), if_neg (by omega)] at h
  split at h
  · simp only [Prod.mk.injEq] at h
    exact Or.inr h.1.symm
  · rename_i hz
    simp only [Prod.mk.injEq] at h
    left
    rw [← h.1, List.drop_zero]
    cases f with
    | nil => simp at hz
    | cons c t => exact ⟨c, by simp⟩
/- an object of a frame -/
def IsFrame (f : List UInt8) (k : Int) (l : List UInt8) : Prop := objOk k l ∧ f = fb k l
theorem read_frame {f s b : List UInt8} {p p2 : Nat} {e e2 : Int} (h1 : rRaw 1 f 0 0 = (s, p, e)) (h2 : rText 4096 f p e = (b, p2, e2)) :
    (endOf f.length p2 e2 = 0 → objOk (kof s) b → IsFrame f (kof s) b) ∧ (∀ k l, IsFrame f k l → endOf f.length p2 e2 = 0 ∧ kof s = k ∧ b = l) := by
  have l1 : p ≤ f.length := by have := rRaw_le 1 f 0 0 (Nat.zero_le _); rw [h1] at this; exact this
  have l2 : p2 ≤ f.length := by have := rText_le 4096 f p e l1; rw [h2] at this; exact this
  refine ⟨fun h0 hok => ⟨hok, ?_⟩, fun k l hf => ?_⟩
  · unfold endOf at h0
    split at h0
    · rename_i h; exact absurd h0 h
    · rename_i h
      split at h0
      · omega
      · have e0 : e2 = 0 := by omega
        subst e0
        have hp : p2 = f.length := by omega
        have he : e = 0 := by
          by_cases c : e = 0
          · exact c
          · rw [text_err c] at h2
            simp only [Prod.mk.injEq] at h2
            exact absurd h2.2.2 c
        subst he
        obtain ⟨t1, -, -, -, -⟩ := text_there l1 h2
        obtain ⟨r1, r2, r3, r4⟩ := raw_there (Nat.zero_le _) (by omega) h1
        rw [hp, List.take_length, r1, List.take_zero, List.nil_append] at t1
        rcases raw_one f h1 with ⟨c, rfl⟩ | rfl
        · have hk : kix c ≠ 0 := by
            have := obj_kind hok
            show kof [c] ≠ 0
            omega
          unfold fb
          rw [show kof [c] = kix c from rfl, lt_kix hk]
          exact t1
        · simp at r2
  · obtain ⟨hok, hf⟩ := hf
    have hk := obj_kind hok
    have hl := hok.1
    have d0 : f.drop 0 = [lt k] ++ tx l := by rw [List.drop_zero, hf]; rfl
    have g1 := raw_read (n := 1) d0 (Nat.zero_le _) rfl
    rw [h1] at g1
    simp only [Prod.mk.injEq] at g1
    obtain ⟨a1, a2, a3⟩ := g1
    subst a1 a3
    have d1 : f.drop p = tx l ++ [] := by rw [a2, drop_add, d0]; simp
    have g2 := text_read (most := 4096) d1 l1 (by omega) (by omega)
    rw [h2] at g2
    simp only [Prod.mk.injEq] at g2
    obtain ⟨b1, b2, b3⟩ := g2
    have hlen := drop_len2 d1 l1
    rw [List.append_nil] at hlen
    refine ⟨?_, kix_lt hk, b1⟩
    unfold endOf
    rw [if_neg (by omega), if_neg (by omega)]
def isFrame (f : List UInt8) : Prop := ∃ k l, IsFrame f k l
set_option maxHeartbeats 1000000 in
set_option maxRecDepth 100000 in
theorem index_any (s : List UInt8) (h : (∃ c, s = [c]) ∨ s = []) (w : World) : Calls Tryz.prog 69 #[.string ⟨#[98, 116, 99]⟩, .string (bs s)] w fun e w' => e = .returned (.int .i64 (kof s - 1)) ∧ w' = w := by
  rcases h with ⟨c, rfl⟩ | rfl
  · have h := strings_Index_one ⟨#[98, 116, 99]⟩ c w
    rw [show (⟨#[98, 116, 99]⟩ : ByteArray).data.toList = [98, 116, 99] from rfl, kix_index] at h
    exact h
  · show Calls Tryz.prog 69 #[.string ⟨#[98, 116, 99]⟩, .string ⟨#[]⟩] w fun e w' => e = .returned (.int .i64 0) ∧ w' = w
    go_enter Tryz.func69, Tryz.ntmps69
    go_wp2
    all_goals go_ret
    all_goals exact ⟨rfl, rfl⟩
end Go.Proofs.YtnmjcpoobabjgaaGreatDoor
/- The object of a frame: the walk. -/
namespace Go.Proofs.YtnmjcpoobabjgaaGreatDoor
open Go.RowKit Classical
set_option maxHeartbeats 2000000 in
set_option maxRecDepth 100000 in
theorem oread_any (f : List UInt8) (w : World) (hf : f.length ≤ 281474976710656) :
    Calls Tryz.prog 44 #[.string (bs f)] w fun e w' => (∀ k l, IsFrame f k l → e = .returned (.tuple #[.agg (arr 2 (ov k l)), .int .i64 0])) ∧ (¬ isFrame f → e = .returned (.tuple #[.agg (arr 2 (ov 0 [])), .int .i64 2])) ∧ Below w.heap.size w w' := by
  have HN := Lib.hid (fun W => new_any f W hf)
  obtain ⟨s, p, e1, h1⟩ : ∃ s p e1, rRaw 1 f 0 0 = (s, p, e1) := ⟨_, _, _, rfl⟩
  obtain ⟨b, p2, e2, h2⟩ : ∃ b p2 e2, rText 4096 f p e1 = (b, p2, e2) := ⟨_, _, _, rfl⟩
  have l1 : p ≤ f.length := by have := rRaw_le 1 f 0 0 (Nat.zero_le _); rw [h1] at this; exact this
  have C1 : Hid (∀ W r, Rd W r f 0 0 → Calls Tryz.prog 60 #[.pointer (some ⟨r, 0, none⟩), .int .i64 1] W fun v w' => v = .returned (.string (bs s)) ∧ Rd w' r f p e1 ∧ Keep (fun k => k ≠ r) W w') := fun W r h => by
    have := rraw_any 1 h (Nat.zero_le _) hf
    rw [h1] at this; exact this
  have C2 : Hid (∀ W r, Rd W r f p e1 → Calls Tryz.prog 68 #[.pointer (some ⟨r, 0, none⟩), .int .i64 4096] W fun v w' => v = .returned (.string (bs b)) ∧ Rd w' r f p2 e2 ∧ Keep (fun k => k ≠ r) W w') := fun W r h => by
    have := rtext_any 4096 h l1 hf
    rw [h2] at this; exact this
  have HI := Lib.hid (fun W => index_any s (raw_one f h1) W)
  obtain ⟨k0, k3⟩ := kof_bound s
  have RF := read_frame h1 h2
  obtain ⟨q, hq⟩ : ∃ q, q = endOf f.length p2 e2 := ⟨_, rfl⟩
  have HE : Hid (∀ W r, Rd W r f p2 e2 → Calls Tryz.prog 62 #[.pointer (some ⟨r, 0, none⟩)] W fun u w' => u = .returned (.int .i64 q) ∧ Below W.heap.size W w') := fun W r h => by rw [hq]; exact end_any h
  rw [← hq] at RF
  obtain ⟨kk, hkk⟩ : ∃ kk, kk = kof s := ⟨_, rfl⟩
  rw [← hkk] at HI RF k0 k3
  have HRF := Lib.hid RF
  have HR := Lib.hid (fun W => right_any kk b W)
  have B0 : Blk (w.alloc (.cells (arr 2 (ov 0 [])) 43)) w.heap.size 43 2 (ov 0 []) := Blk.newAt _ (heap_alloc_new _ _) rfl
  have L0 : Hid (Below w.heap.size w (w.alloc (.cells (arr 2 (ov 0 [])) 43))) := (Below.refl _ _).alloc (Nat.le_refl _) _
  clear h1 h2 l1 hq hkk RF hf
  go_enter Tryz.func44, Tryz.ntmps44
  go_upto_region 1 with fail
  change Code.wp _ _ _ _ (w.alloc (.cells (arr 2 (ov 0 [])) 43))
  have BZ := Lib.hid B0
  clear B0
  generalize hzr : w.heap.size = zr at BZ ⊢
  have HZ := Lib.hid hzr
  clear hzr
  generalize w.alloc (.cells (arr 2 (ov 0 [])) 43) = w1 at L0 BZ ⊢
  have hr0 : Hid (w.heap.size ≤ w1.heap.size) := L0.out.size
  go_wp2_with fail
  refine (HN.out w1).mono ?_
  rintro e w2 ⟨r, rfl, hr, R2, L2⟩
  have RL : Hid (zr ≠ r ∧ w.heap.size ≤ r) := ⟨by have := BZ.out.lt; omega, by have := hr0.out; omega⟩
  have BZ2 := Lib.hid (BZ.out.below L2 BZ.out.lt)
  have K2 : Hid (Keep (fun b => b < w.heap.size) w w2) := keepAll (L0.out.trans (L2.mono L0.out.size))
  have HR2 := Lib.hid R2
  clear R2 L2 hr BZ L0 HN hr0
  go_wp2_with fail
  refine (C1.out w2 r HR2.out).mono ?_
  rintro e w3 ⟨rfl, R3, k⟩
  have BZ3 := Lib.hid (k.blk RL.out.1 BZ2.out)
  have K3 : Hid (Keep (fun b => b < w.heap.size) w w3) := K2.out.trans (k.mono fun b hb _ => by have := RL.out.2; omega)
  have HR3 := Lib.hid R3
  clear R3 k K2 BZ2 HR2 C1
  go_wp2_with fail
  refine (C2.out w3 r HR3.out).mono ?_
  rintro e w4 ⟨rfl, R4, k⟩
  have BZ4 := Lib.hid (k.blk RL.out.1 BZ3.out)
  have K4 : Hid (Keep (fun b => b < w.heap.size) w w4) := K3.out.trans (k.mono fun b hb _ => by have := RL.out.2; omega)
  have HR4 := Lib.hid R4
  clear R4 k K3 BZ3 HR3 C2
  go_wp2_with fail
  refine (HI.out w4).mono ?_
  rintro e w5 ⟨rfl, rfl⟩
  have A5 := (Below.refl w5.heap.size w5).alloc (Nat.le_refl _) (.cells (arr 2 (ov kk b)) 43)
  have BZ5 := Lib.hid (BZ4.out.below A5 BZ4.out.lt)
  have K5 := Lib.hid (K4.out.trans (Keep.all A5))
  have HR5 := Lib.hid (HR4.out.keep (K := fun _ => True) (Keep.all A5) trivial)
  have BO := Lib.hid (Blk.newAt _ (heap_alloc_new w5 (.cells (arr 2 (ov kk b)) 43)) rfl : Blk (w5.alloc (.cells (arr 2 (ov kk b)) 43)) w5.heap.size 43 2 (ov kk b))
  clear A5 BZ4 K4 HR4
  go_upto_region 5 with fail
  change Code.wp _ _ _ _ (w5.alloc (.cells (arr 2 (ov kk b)) 43))
  generalize w5.alloc (.cells (arr 2 (ov kk b)) 43) = w6 at BZ5 K5 HR5 BO ⊢
  generalize w5.heap.size = zo at BO ⊢
  have c0 : w6.cell? ⟨zo, 0, none⟩ = some (.int .i64 kk) := BO.out.cell 0 (by omega)
  by_cases h0 : q = 0
  · subst h0
    go_wp2_with fail
    refine (HE.out w6 r HR5.out).mono ?_
    rintro e w7 ⟨rfl, L7⟩
    have BZ7 := Lib.hid (BZ5.out.below L7 BZ5.out.lt)
    have K7 := Lib.hid (K5.out.trans (Keep.all L7))
    have BO7 := Lib.hid (BO.out.below L7 BO.out.lt)
    have d0 : w7.cell? ⟨zo, 0, none⟩ = some (.int .i64 kk) := BO7.out.cell 0 (by omega)
    have d1 : w7.cell? ⟨zo, 1, none⟩ = some (.string (bs b)) := BO7.out.cell 1 (by omega)
    clear L7 BZ5 K5 BO c0 HR5
    by_cases hok : objOk kk b
    · rw [decide_eq_true hok] at HR
      have HF := Lib.hid (HRF.out.1 (by first | rfl | trivial) hok)
      clear hok
      go_wp2_with fail
      refine (HR.out w7).mono ?_
      rintro e w8 ⟨rfl, L8⟩
      have BZ8 := Lib.hid (BZ7.out.below L8 BZ7.out.lt)
      have K8 := Lib.hid (K7.out.trans (Keep.all L8))
      have BO8 := Lib.hid (BO7.out.below L8 BO7.out.lt)
      clear L8 BZ7 K7 BO7 d0 d1
      go_upto_region 7 with fail
      refine wp_region_lit ?_
      refine wpList_valG (by kernel_rfl) (ex_load 43 (.tmp 7) rfl zo 0 2 (ov kk b) rfl Tryz.underlying43 rfl szObject BO8.out.at0) ?_
      try simp only [Act.put, tA, tZ, tS]
      refine wpList_unitG (by kernel_rfl) (ex_store 43 (.tmp 2) (.tmp 28) rfl zr 0 2 (ov kk b) rfl rfl (BZ8.out.there 0 2 (by omega)) szObject (fun i _ => ov_one _ _ i)) ?_
      try simp only [Act.put, tA, tZ, tS]
      refine wpList_valS (v := ?_) (by kernel_rfl) ?_ ?_
      rotate_left 1
      · (go_simp; try with_reducible rfl)
      try simp only [Act.put, tA, tZ, tS]
      refine wpList_nil ?_
      have B9 := BZ8.out.over (ov kk b)
      have L9 : Hid (Below w.heap.size w (w8.setCells zr 0 (arr 2 (ov kk b)).toList)) := (K8.out.trans ((keep_setCells (b := zr) _ 0 w8).mono fun b hb _ => by have := HZ.out; omega)).below (Nat.le_refl _)
      clear BZ8 K8 BO8
      generalize w8.setCells zr 0 (arr 2 (ov kk b)).toList = w9 at B9 L9 ⊢
      go_wp2
      exact bodyPost_ret (results_blk2 rfl _ _ zr 43 2 (ov kk b) B9 _ rfl Tryz.underlying43 rfl szObject) rfl ⟨fun k l h => (by
        obtain ⟨_, g1, g2⟩ := HRF.out.2 k l h
        rw [← g1, ← g2]; rfl), fun h => absurd ⟨_, _, HF.out⟩ h, L9.out⟩
    · rw [decide_eq_false hok] at HR
      have NF : Hid (¬ isFrame f) := fun ⟨k, l, h⟩ => by
        obtain ⟨_, g1, g2⟩ := HRF.out.2 k l h
        exact hok (by rw [g1, g2]; exact h.1)
      clear hok
      go_wp2_with fail
      refine (HR.out w7).mono ?_
      rintro e w8 ⟨rfl, L8⟩
      have BZ8 := Lib.hid (BZ7.out.below L8 BZ7.out.lt)
      have K8 := Lib.hid (K7.out.trans (Keep.all L8))
      clear L8 BZ7 K7 BO7 d0 d1
      go_upto_region 6 with fail
      refine wp_region_lit ?_
      refine wpList_valS (v := ?_) (by kernel_rfl) ?_ ?_
      rotate_left 1
      · (go_simp; try with_reducible rfl)
      try simp only [Act.put, tA, tZ, tS]
      refine wpList_unitG (by kernel_rfl) (ex_store 43 (.tmp 2) (.tmp 27) rfl zr 0 2 (ov 0 []) rfl rfl (BZ8.out.there 0 2 (by omega)) szObject (fun i _ => ov_one _ _ i)) ?_
      try simp only [Act.put, tA, tZ, tS]
      refine wpList_valS (v := ?_) (by kernel_rfl) ?_ ?_
      rotate_left 1
      · (go_simp; try with_reducible rfl)
      try simp only [Act.put, tA, tZ, tS]
      refine wpList_nil ?_
      have B9 := BZ8.out.over (ov 0 [])
      have L9 : Hid (Below w.heap.size w (w8.setCells zr 0 (arr 2 (ov 0 [])).toList)) := (K8.out.trans ((keep_setCells (b := zr) _ 0 w8).mono fun b hb _ => by have := HZ.out; omega)).below (Nat.le_refl _)
      clear BZ8 K8
      generalize w8.setCells zr 0 (arr 2 (ov 0 [])).toList = w9 at B9 L9 ⊢
      go_wp2
      exact bodyPost_ret (results_blk2 rfl _ _ zr 43 2 (ov 0 []) B9 _ rfl Tryz.underlying43 rfl szObject) rfl ⟨fun k l h => absurd ⟨k, l, h⟩ NF.out, fun _ => rfl, L9.out⟩
  · have d0 : (q != 0) = true := by simpa using h0
    have NF : Hid (¬ isFrame f) := fun ⟨k, l, h⟩ => h0 (HRF.out.2 k l h).1
    clear h0
    go_wp2_with fail
    refine (HE.out w6 r HR5.out).mono ?_
    rintro e w7 ⟨rfl, L7⟩
    have BZ8 := Lib.hid (BZ5.out.below L7 BZ5.out.lt)
    have K8 := Lib.hid (K5.out.trans (Keep.all L7))
    clear L7 BZ5 K5 BO c0 HR5
    go_upto_region 6 with fail
    refine wp_region_lit ?_
    refine wpList_valS (v := ?_) (by kernel_rfl) ?_ ?_
    rotate_left 1
    · (go_simp; try with_reducible rfl)
    try simp only [Act.put, tA, tZ, tS]
    refine wpList_unitG (by kernel_rfl) (ex_store 43 (.tmp 2) (.tmp 27) rfl zr 0 2 (ov 0 []) rfl rfl (BZ8.out.there 0 2 (by omega)) szObject (fun i _ => ov_one _ _ i)) ?_
    try simp only [Act.put, tA, tZ, tS]
    refine wpList_valS (v := ?_) (by kernel_rfl) ?_ ?_
    rotate_left 1
    · (go_simp; try with_reducible rfl)
    try simp only [Act.put, tA, tZ, tS]
    refine wpList_nil ?_
    have B9 := BZ8.out.over (ov 0 [])
    have L9 : Hid (Below w.heap.size w (w7.setCells zr 0 (arr 2 (ov 0 [])).toList)) := (K8.out.trans ((keep_setCells (b := zr) _ 0 w7).mono fun b hb _ => by have := HZ.out; omega)).below (Nat.le_refl _)
    clear BZ8 K8
    generalize w7.setCells zr 0 (arr 2 (ov 0 [])).toList = w9 at B9 L9 ⊢
    go_wp2
    exact bodyPost_ret (results_blk2 rfl _ _ zr 43 2 (ov 0 []) B9 _ rfl Tryz.underlying43 rfl szObject) rfl ⟨fun k l h => absurd ⟨k, l, h⟩ NF.out, fun _ => rfl, L9.out⟩
end Go.Proofs.YtnmjcpoobabjgaaGreatDoor
namespace Go.Proofs.YtnmjcpoobabjgaaGreatDoor.Dg
/- plain mathematics: 32-bit words -/
abbrev W32 := BitVec 32
def U (x : W32) : Int := (x.toNat : Int)
def rr (x : W32) (n : Nat) : W32 := x <<< (32 - n) ||| x >>> n
def sS0 (x : W32) : W32 := rr x 7 ^^^ rr x 18 ^^^ x >>> 3
def sS1 (x : W32) : W32 := rr x 17 ^^^ rr x 19 ^^^ x >>> 10
def bS0 (x : W32) : W32 := rr x 2 ^^^ rr x 13 ^^^ rr x 22
def bS1 (x : W32) : W32 := rr x 6 ^^^ rr x 11 ^^^ rr x 25

theorem U_ge (x : W32) : 0 ≤ U x := by unfold U; omega
theorem U_lt (x : W32) : U x < 4294967296 := by unfold U; have := x.isLt; omega
theorem U_xor (x y : W32) : bits .xor .u32 (U x) (U y) = U (x ^^^ y) := by
  unfold U; rw [u32_xor_nat _ _ (by have := x.isLt; omega) (by have := y.isLt; omega), BitVec.toNat_xor]
theorem U_and (x y : W32) : bits .and .u32 (U x) (U y) = U (x &&& y) := by
  unfold U; rw [u32_and_nat _ _ (by have := x.isLt; omega) (by have := y.isLt; omega), BitVec.toNat_and]
theorem U_or (x y : W32) : bits .or .u32 (U x) (U y) = U (x ||| y) := by
  unfold U; rw [u32_or_nat _ _ (by have := x.isLt; omega) (by have := y.isLt; omega), BitVec.toNat_or]
theorem U_add (x y : W32) : IntKind.u32.wrap (U x + U y) = U (x + y) := by
  unfold U; rw [IntKind.wrap_u32', BitVec.toNat_add]; omega
theorem U_addm (x y : W32) : (U x + U y) % 4294967296 = U (x + y) := by
  unfold U; rw [BitVec.toNat_add]; omega
theorem U_shl (x : W32) (n : Nat) : IntKind.u32.wrap (U x * 2 ^ n) = U (x <<< n) := by
  unfold U; rw [IntKind.wrap_u32', BitVec.toNat_shiftLeft, Nat.shiftLeft_eq, Int.natCast_emod, Int.natCast_mul, Int.natCast_pow]; rfl
theorem U_shr (x : W32) (n : Nat) : U x / 2 ^ n = U (x >>> n) := by
  unfold U; rw [BitVec.toNat_ushiftRight, Nat.shiftRight_eq_div_pow, Int.natCast_ediv, Int.natCast_pow]; rfl
theorem U_shr3 (x : W32) : U x / (8 : Int) = U (x >>> 3) := U_shr x 3
theorem U_shr10 (x : W32) : U x / (1024 : Int) = U (x >>> 10) := U_shr x 10
theorem U_xor10 (a x : W32) : bits .xor .u32 (U a) (U x / (1024 : Int)) = U (a ^^^ x >>> 10) := by rw [U_shr10, U_xor]
theorem U_xor3 (a x : W32) : bits .xor .u32 (U a) (U x / (8 : Int)) = U (a ^^^ x >>> 3) := by rw [U_shr3, U_xor]
theorem U_shlm (x : W32) (n : Nat) : (U x <<< n) % 4294967296 = U (x <<< n) := by
  rw [Int.shiftLeft_eq, ← U_shl, IntKind.wrap_u32']
theorem U_shrm (x : W32) (n : Nat) : (U x >>> n) = U (x >>> n) := by
  rw [Int.shiftRight_eq_div_pow, ← U_shr, Int.natCast_pow]; rfl
/- a block's words -/
def X8 (b : UInt8) : W32 := b.toBitVec.setWidth 32
def wd (f : Nat → UInt8) (j : Nat) : W32 := X8 (f (4 * j)) <<< 24 ||| X8 (f (4 * j + 1)) <<< 16 ||| X8 (f (4 * j + 2)) <<< 8 ||| X8 (f (4 * j + 3))
theorem U_X8 (b : UInt8) : ((b.toNat : Nat) : Int) = U (X8 b) := by
  unfold U X8
  rw [BitVec.toNat_setWidth]
  have := b.toNat_lt
  show ((b.toBitVec.toNat : Nat) : Int) = _
  have h2 : b.toBitVec.toNat = b.toNat := rfl
  rw [h2, Nat.mod_eq_of_lt (by omega)]
theorem U_w8 (b : UInt8) : IntKind.u32.wrap ((b.toNat : Nat) : Int) = U (X8 b) := by
  rw [U_X8, IntKind.wrap_u32']; have := U_ge (X8 b); have := U_lt (X8 b); omega
theorem U_shl24 (x : W32) : IntKind.u32.wrap (U x * (16777216 : Int)) = U (x <<< 24) := U_shl x 24
theorem U_shl16 (x : W32) : IntKind.u32.wrap (U x * (65536 : Int)) = U (x <<< 16) := U_shl x 16
theorem U_shl8 (x : W32) : IntKind.u32.wrap (U x * (256 : Int)) = U (x <<< 8) := U_shl x 8
/- the words that follow: one more at each step -/
def tab (d : Nat → W32) : Nat → Nat → W32
  | 0 => d
  | n + 1 => fun j => if j = 16 + n then sS1 (tab d n (14 + n)) + tab d n (9 + n) + sS0 (tab d n (1 + n)) + tab d n n else tab d n j
def sch (d : Nat → W32) : Nat → W32 := tab d 48
theorem tab_step (d g : Nat → W32) (k : Nat) (h16 : 16 ≤ k) (hg : ∀ j, j < k → g j = tab d (k - 16) j) :
    ∀ j, j < k + 1 → (if j = k then sS1 (g (k - 2)) + g (k - 7) + sS0 (g (k - 15)) + g (k - 16) else g j) = tab d (k + 1 - 16) j := by
  obtain ⟨n, rfl⟩ : ∃ n, k = 16 + n := ⟨k - 16, by omega⟩
  intro j hj
  rw [show 16 + n + 1 - 16 = n + 1 by omega]
  rw [show 16 + n - 16 = n by omega] at *
  unfold tab
  by_cases e : j = 16 + n
  · rw [if_pos e, if_pos e, hg _ (by omega), hg _ (by omega), hg _ (by omega), hg _ (by omega), show 16 + n - 2 = 14 + n by omega, show 16 + n - 7 = 9 + n by omega, show 16 + n - 15 = 1 + n by omega]
  · rw [if_neg e, if_neg e, hg _ (by omega)]
/- a round, and all of them -/
def kl : List W32 := [0x428a2f98#32, 0x71374491#32, 0xb5c0fbcf#32, 0xe9b5dba5#32, 0x3956c25b#32, 0x59f111f1#32, 0x923f82a4#32, 0xab1c5ed5#32, 0xd807aa98#32, 0x12835b01#32, 0x243185be#32, 0x550c7dc3#32, 0x72be5d74#32, 0x80deb1fe#32, 0x9bdc06a7#32, 0xc19bf174#32, 0xe49b69c1#32, 0xefbe4786#32, 0x0fc19dc6#32, 0x240ca1cc#32, 0x2de92c6f#32, 0x4a7484aa#32, 0x5cb0a9dc#32, 0x76f988da#32, 0x983e5152#32, 0xa831c66d#32, 0xb00327c8#32, 0xbf597fc7#32, 0xc6e00bf3#32, 0xd5a79147#32, 0x06ca6351#32, 0x14292967#32, 0x27b70a85#32, 0x2e1b2138#32, 0x4d2c6dfc#32, 0x53380d13#32, 0x650a7354#32, 0x766a0abb#32, 0x81c2c92e#32, 0x92722c85#32, 0xa2bfe8a1#32, 0xa81a664b#32, 0xc24b8b70#32, 0xc76c51a3#32, 0xd192e819#32, 0xd6990624#32, 0xf40e3585#32, 0x106aa070#32, 0x19a4c116#32, 0x1e376c08#32, 0x2748774c#32, 0x34b0bcb5#32, 0x391c0cb3#32, 0x4ed8aa4a#32, 0x5b9cca4f#32, 0x682e6ff3#32, 0x748f82ee#32, 0x78a5636f#32, 0x84c87814#32, 0x8cc70208#32, 0x90befffa#32, 0xa4506ceb#32, 0xbef9a3f7#32, 0xc67178f2#32]
def kk (i : Nat) : W32 := kl.getD i 0#32
structure St where
  a : W32
  b : W32
  c : W32
  d : W32
  e : W32
  f : W32
  g : W32
  h : W32
def Tt (ws : Nat → W32) (i : Nat) (s : St) : W32 := s.h + bS1 s.e + (s.e &&& s.f ^^^ ~~~s.e &&& s.g) + kk i + ws i
def Uu (s : St) : W32 := bS0 s.a + (s.a &&& s.b ^^^ s.a &&& s.c ^^^ s.b &&& s.c)
def rnd (ws : Nat → W32) (i : Nat) (s : St) : St := ⟨Tt ws i s + Uu s, s.a, s.b, s.c, s.d + Tt ws i s, s.e, s.f, s.g⟩
def rnds (ws : Nat → W32) (s : St) : Nat → St
  | 0 => s
  | n + 1 => rnd ws n (rnds ws s n)
/- the state as a function -/
def stOf (f : Nat → W32) : St := ⟨f 0, f 1, f 2, f 3, f 4, f 5, f 6, f 7⟩
def ofSt (s : St) (i : Nat) : W32 := match i with
  | 0 => s.a | 1 => s.b | 2 => s.c | 3 => s.d | 4 => s.e | 5 => s.f | 6 => s.g | _ => s.h
def cmpr (f : Nat → W32) (blk : Nat → UInt8) (i : Nat) : W32 := f i + ofSt (rnds (sch (wd blk)) (stOf f) 64) i
theorem U_not (x : W32) : bits .xor .u32 (if IntKind.u32.signed = true then -1 else IntKind.u32.max) (U x) = U (~~~x) := by
  have e : (if IntKind.u32.signed = true then (-1 : Int) else IntKind.u32.max) = U (BitVec.allOnes 32) := by rfl
  rw [e, U_xor]
  congr 1
theorem neg_and31 : ∀ n : Nat, n < 32 → 0 < n → bits .and .u64 (IntKind.u64.wrap (-(n : Int))) 31 = ((32 - n : Nat) : Int) := by decide +kernel
end Go.Proofs.YtnmjcpoobabjgaaGreatDoor.Dg
namespace Go.Proofs.YtnmjcpoobabjgaaGreatDoor.Dg
open Go.RowKit
attribute [local go_sem] U_xor U_and U_or U_add U_addm U_shl U_shr U_shlm U_shrm U_xor3 U_xor10
set_option maxHeartbeats 400000 in
theorem rot_any (x : W32) (n : Nat) (w : World) (h0 : 0 < n) (h1 : n < 32) :
    Calls Tryz.prog 151 #[.int .u32 (U x), .int .i64 (-(n:Int))] w fun e w' => e = .returned (.int .u32 (U (rr x n))) ∧ w = w' := by
  have e1 := neg_and31 n h1 h0
  have l0 := U_ge x
  have l1 := U_lt x
  go_enter Tryz.func151, Tryz.ntmps151
  go_wp2
  go_ret
  rw [show 32 - (32 - n) = n by omega]
  exact ⟨rfl, rfl⟩
set_option maxHeartbeats 400000 in
theorem tr_any (x : W32) (n : Nat) (w : World) (h0 : 0 < n) (h1 : n < 32) :
    Calls Tryz.prog 143 #[.int .u32 (U x), .int .i64 n] w fun e w' => e = .returned (.int .u32 (U (rr x n))) ∧ w = w' := by
  go_enter Tryz.func143, Tryz.ntmps143
  go_wp2_with fail
  refine (rot_any x n _ h0 h1).mono ?_
  rintro e w' ⟨rfl, rfl⟩
  go_wp2
  go_ret
  exact ⟨rfl, rfl⟩
theorem tr_at (x : W32) (k : Int) (n : Nat) (w : World) (hk : k = n) (h0 : 0 < n) (h1 : n < 32) :
    Calls Tryz.prog 143 #[.int .u32 (U x), .int .i64 k] w fun e w' => e = .returned (.int .u32 (U (rr x n))) ∧ w = w' := by
  subst hk; exact tr_any x n w h0 h1
set_option maxHeartbeats 400000 in
theorem bS1_any (x : W32) (w : World) :
    Calls Tryz.prog 130 #[.int .u32 (U x)] w fun e w' => e = .returned (.int .u32 (U (bS1 x))) ∧ w = w' := by
  go_enter Tryz.func130, Tryz.ntmps130
  go_wp2_with fail
  refine (tr_at x 6 6 _ rfl (by omega) (by omega)).mono ?_
  rintro e w' ⟨rfl, rfl⟩
  go_wp2_with fail
  refine (tr_at x 11 11 _ rfl (by omega) (by omega)).mono ?_
  rintro e w' ⟨rfl, rfl⟩
  go_wp2_with fail
  refine (tr_at x 25 25 _ rfl (by omega) (by omega)).mono ?_
  rintro e w' ⟨rfl, rfl⟩
  go_wp2_with fail
  go_ret
  exact ⟨rfl, rfl⟩
set_option maxHeartbeats 400000 in
theorem bS0_any (x : W32) (w : World) :
    Calls Tryz.prog 131 #[.int .u32 (U x)] w fun e w' => e = .returned (.int .u32 (U (bS0 x))) ∧ w = w' := by
  go_enter Tryz.func131, Tryz.ntmps131
  go_wp2_with fail
  refine (tr_at x 2 2 _ rfl (by omega) (by omega)).mono ?_
  rintro e w' ⟨rfl, rfl⟩
  go_wp2_with fail
  refine (tr_at x 13 13 _ rfl (by omega) (by omega)).mono ?_
  rintro e w' ⟨rfl, rfl⟩
  go_wp2_with fail
  refine (tr_at x 22 22 _ rfl (by omega) (by omega)).mono ?_
  rintro e w' ⟨rfl, rfl⟩
  go_wp2_with fail
  go_ret
  exact ⟨rfl, rfl⟩
set_option maxHeartbeats 400000 in
theorem sS1_any (x : W32) (w : World) :
    Calls Tryz.prog 141 #[.int .u32 (U x)] w fun e w' => e = .returned (.int .u32 (U (sS1 x))) ∧ w = w' := by
  have l0 := U_ge x
  have l1 := U_lt x
  go_enter Tryz.func141, Tryz.ntmps141
  go_wp2_with fail
  refine (tr_at x 17 17 _ rfl (by omega) (by omega)).mono ?_
  rintro e w' ⟨rfl, rfl⟩
  go_wp2_with fail
  refine (tr_at x 19 19 _ rfl (by omega) (by omega)).mono ?_
  rintro e w' ⟨rfl, rfl⟩
  go_wp2_with fail
  go_ret
  exact ⟨rfl, rfl⟩
set_option maxHeartbeats 400000 in
theorem sS0_any (x : W32) (w : World) :
    Calls Tryz.prog 142 #[.int .u32 (U x)] w fun e w' => e = .returned (.int .u32 (U (sS0 x))) ∧ w = w' := by
  have l0 := U_ge x
  have l1 := U_lt x
  go_enter Tryz.func142, Tryz.ntmps142
  go_wp2_with fail
  refine (tr_at x 7 7 _ rfl (by omega) (by omega)).mono ?_
  rintro e w' ⟨rfl, rfl⟩
  go_wp2_with fail
  refine (tr_at x 18 18 _ rfl (by omega) (by omega)).mono ?_
  rintro e w' ⟨rfl, rfl⟩
  go_wp2_with fail
  go_ret
  exact ⟨rfl, rfl⟩
end Go.Proofs.YtnmjcpoobabjgaaGreatDoor.Dg
namespace Go.Proofs.YtnmjcpoobabjgaaGreatDoor.Dg
open Go.RowKit
/- n values as a function tells them -/
def arr (n : Nat) (f : Nat → Value) : Array Value := Array.ofFn (fun i : Fin n => f i)
theorem arr_size (n : Nat) (f : Nat → Value) : (arr n f).size = n := by simp [arr]
theorem arr_congr {n : Nat} {f g : Nat → Value} (h : ∀ i, i < n → f i = g i) : arr n f = arr n g := by
  unfold arr
  apply Array.ext
  · simp
  · intro i h1 h2
    simp at h1
    simp [h i h1]
theorem arr_get (n : Nat) (f : Nat → Value) (i : Nat) (h : i < n) : (arr n f)[i]? = some (f i) := by simp [arr, h]
/- a block of n cells that reads as a function -/
def Blk (w : World) (b : Nat) (E : TypeId) (n : Nat) (f : Nat → Value) : Prop :=
  w.heap[b]? = some (.cells (arr n f) E (0, 0))

theorem Blk.lt {w : World} {b E n f} (h : Blk w b E n f) : b < w.heap.size := by
  unfold Blk at h
  by_cases hlt : b < w.heap.size
  · exact hlt
  · have hn : w.heap[b]? = none := by simp; omega
    rw [hn] at h; cases h
theorem Blk.cell {w : World} {b E n f} (h : Blk w b E n f) (i : Nat) (hi : i < n) : w.cell? ⟨b, i, none⟩ = some (f i) := by
  rw [cell_of_row w b i _ E _ h]
  exact arr_get n f i hi
theorem Blk.frozen {w : World} {b E n f} (h : Blk w b E n f) (i : Nat) : w.frozen? ⟨b, i, none⟩ = false :=
  frozen_of_row w b i _ E h
theorem Blk.congr {w : World} {b E n f g} (h : Blk w b E n f) (hfg : ∀ i, i < n → f i = g i) : Blk w b E n g := by
  unfold Blk at *
  rw [h, arr_congr hfg]
theorem Blk.set {w : World} {b E n f} (h : Blk w b E n f) (i : Nat) (v : Value) : Blk (w.setCell ⟨b, i, none⟩ v) b E n (fun j => if j = i then v else f j) := by
  unfold Blk at *
  rw [heap_setCell_same w b i _ E v h]
  congr 2
  unfold arr
  apply Array.ext
  · simp
  · intro j h1 h2
    simp at h1
    rw [Array.getElem_setIfInBounds (by simpa using h1)]
    simp only [Array.getElem_ofFn]
    by_cases e : i = j
    · subst e; simp
    · rw [if_neg e, if_neg (fun e' => e e'.symm)]
theorem Blk.setOther {w : World} {b E n f} (h : Blk w b E n f) (a : Addr) (v : Value) (ha : a.block ≠ b) : Blk (w.setCell a v) b E n f := by
  unfold Blk at *
  rw [heap_setCell_other w a b v (fun e => ha e.symm)]; exact h
theorem Blk.alloc {w : World} {b E n f} (h : Blk w b E n f) (o : Obj) : Blk (w.alloc o) b E n f := by
  have hl := h.lt
  unfold Blk at *
  show (w.heap.push o)[b]? = _
  rw [Array.getElem?_push, if_neg (Nat.ne_of_lt hl)]; exact h
theorem Blk.drew {w : World} {b E n f} (h : Blk w b E n f) : Blk w.drew b E n f := h
theorem Blk.drewN {w : World} {b E n f} (h : Blk w b E n f) (q : Nat) : Blk (w.drewN q) b E n f := by
  unfold Blk at *; simpa using h
theorem Blk.below {w w' : World} {B b E n f} (h : Blk w b E n f) (hb : Below B w w') (hlt : b < B) : Blk w' b E n f := by
  unfold Blk at *
  rw [hb.block b hlt]; exact h
theorem Blk.new (w : World) (cs : Array Value) (E : TypeId) (n : Nat) (f : Nat → Value) (hc : cs = arr n f) : Blk (w.alloc (.cells cs E)) w.heap.size E n f := by
  unfold Blk
  rw [heap_alloc_new, hc]
theorem Blk.newAt {w : World} {b : Nat} {cs : Array Value} {E : TypeId} {n : Nat} (f : Nat → Value) (h : w.heap[b]? = some (.cells cs E (0,0))) (hc : cs = arr n f) : Blk w b E n f := by
  unfold Blk
  rw [h, hc]
theorem Blk.setRow {w : World} {b E n f} (h : Blk w b E n f) (g : Nat → Value) : Blk (w.setRow b (arr n g)) b E n g := by
  unfold Blk at *
  exact setRow_heap w b _ _ E _ h
theorem Blk.setRowOther {w : World} {b E n f} (h : Blk w b E n f) (k : Nat) (cs : Array Value) (hk : k ≠ b) : Blk (w.setRow k cs) b E n f := by
  unfold Blk at *
  rw [setRow_other w k b cs (fun e => hk e.symm)]; exact h
theorem Blk.range {w : World} {b E n f} (h : Blk w b E n f) (o m : Nat) (hm : o + m ≤ n) : w.rangeAt b o (arr m (fun i => f (o + i))).toList := by
  intro j v hv
  have hj : j < m := by
    have := (List.getElem?_eq_some_iff.1 hv).1
    simpa [arr_size] using this
  have e : (arr m (fun i => f (o + i))).toList[j]? = some (f (o + j)) := by
    rw [Array.getElem?_toList]; exact arr_get _ _ _ hj
  rw [e] at hv
  cases hv
  exact h.cell _ (by omega)
theorem Blk.there {w : World} {b E n f} (h : Blk w b E n f) (o m : Nat) (hm : o + m ≤ n) : w.there b o m := fun j hj =>
  ⟨by rw [h.cell _ (by omega)]; rfl, h.frozen _⟩

section
variable {P : Program}
theorem wpList_load_blk {ops : Array Oper} {rest : List Oper} {o : Oper} {a : Act} {w : World} {Q : Exit → Act → World → Prop} (hgd : o.guard = none) (ty : TypeId) (x : Operand) (ho : o.op = .load ty x)
    (g : Nat) (hx : a.eval x = .pointer (some ⟨g, 0, none⟩)) (E : TypeId) (n : Nat) (f : Nat → Value) (hB : Blk w g E n f) (d : TypeDesc)
    (hu : P.underlying ty = some d) (hd : (match d with | .struct _ | .array _ _ => true | _ => false) = true) (hi : (P.info? ty).map (·.size) = some n)
    (h : wpList P ops Q rest (a.put o.dst (.agg (arr n f))) w) : wpList P ops Q (o :: rest) a w :=
  wpList_load_row hgd ty x ho g hx E (arr n f) (0, 0) d hB hu hd (by rw [arr_size]; exact hi) h
theorem wpList_store_blk {ops : Array Oper} {rest : List Oper} {o : Oper} {a : Act} {w : World} {Q : Exit → Act → World → Prop} (hgd : o.guard = none) (ty : TypeId) (x y : Operand) (ho : o.op = .store ty x y)
    (g : Nat) (n : Nat) (f fo : Nat → Value) (hx : a.eval x = .pointer (some ⟨g, 0, none⟩)) (hy : a.eval y = .agg (arr n f)) (E : TypeId) (hB : Blk w g E n fo)
    (hi : (P.info? ty).map (·.size) = some n) (h1 : ∀ i, i < n → (f i).oneCell' = true)
    (h : wpList P ops Q rest (a.put o.dst undef) (w.setRow g (arr n f))) : wpList P ops Q (o :: rest) a w :=
  wpList_store_row hgd ty x y ho g (arr n f) hx hy E (arr n fo) hB (by rw [arr_size]; exact hi) (by rw [arr_size, arr_size])
    (Array.all_eq_true_iff_forall_mem.2 (fun v hv => by
      unfold arr at hv
      rw [Array.mem_ofFn] at hv
      obtain ⟨i, rfl⟩ := hv
      exact h1 i i.isLt)) h
theorem results_blk {fn : Func} {p : Tmp} {ty : TypeId} (h : fn.results = #[.cell p ty]) (tmps : Array Value) (w : World) (g : Nat) (E : TypeId) (n : Nat) (f : Nat → Value) (hB : Blk w g E n f) (d : TypeDesc)
    (hp : tmps.getD p undef = .pointer (some ⟨g, 0, none⟩))
    (hu : P.underlying ty = some d) (hd : (match d with | .struct _ | .array _ _ => true | _ => false) = true) (hi : (P.info? ty).map (·.size) = some n) :
    (results fn tmps).run P w = .ok (.agg (arr n f)) w :=
  results_cell_row h tmps w g E (arr n f) (0, 0) d hp hB hu hd (by rw [arr_size]; exact hi)
end
end Go.Proofs.YtnmjcpoobabjgaaGreatDoor.Dg
namespace Go.Proofs.YtnmjcpoobabjgaaGreatDoor.Dg
open Go.RowKit
attribute [local go_sem] U_xor U_and U_or U_add U_addm U_shl U_shr U_shlm U_shrm U_w8 U_shl24 U_shl16 U_shl8
theorem ty58 : Tryz.prog.underlying 170 = some (.array 64 113) := by kernel_rfl
theorem sz58 : (Tryz.prog.info? 170).map (·.size) = some 64 := by kernel_rfl
set_option maxHeartbeats 4000000 in
set_option maxRecDepth 100000 in
theorem words_any (hb off : Nat) (f : Nat → UInt8) (w : World) 
    (hc : ∀ i, i < 64 → w.cell? ⟨hb, off + i, none⟩ = some (.int .u8 ((f i).toNat : Int))) (hlt : hb < w.heap.size) :
    Calls Tryz.prog 129 #[.pointer (some ⟨hb, off, none⟩)] w fun e w' => e = .returned (.agg (arr 64 (fun j => .int .u32 (U (sch (wd f) j))))) ∧ Below w.heap.size w w' := by
  go_enter Tryz.func129, Tryz.ntmps129
  go_wp2
  go_loopw [6] (fun i wr => ∃ (k : Nat) (g : Nat → W32), k ≤ 16 ∧ i = .int .i64 k ∧ Blk wr (w.heap.size + 1) 170 64 (fun j => .int .u32 (U (g j))) ∧ (∀ j, j < k → g j = wd f j) ∧
     Blk wr w.heap.size 170 64 (fun _ => .int .u32 0) ∧ Below w.heap.size w wr) (fun i _ => 16 - (intOf i).toNat)
  case atStart => exact ⟨0, fun _ => 0#32, by omega, rfl, Blk.newAt _ (heap_alloc2_new w _ _) (by rfl), fun j hj => absurd hj (by omega), Blk.newAt _ (heap_alloc2_old w _ _) (by rfl), ((Below.refl _ _).alloc (Nat.le_refl _) _).alloc (by simp) _⟩
  case round =>
    obtain ⟨k, g, hk, rfl, hB, hg, hR, hbl⟩ := hrel
    by_cases hlt : k < 16
    · have c0 : wr.cell? ⟨hb, off + 4 * k, none⟩ = some (.int .u8 ((f (4*k)).toNat : Int)) := by rw [hbl.cell (by assumption)]; exact hc _ (by omega)
      have c1 : wr.cell? ⟨hb, off + (4 * k + 1), none⟩ = some (.int .u8 ((f (4*k+1)).toNat : Int)) := by rw [hbl.cell (by assumption)]; exact hc _ (by omega)
      have c2 : wr.cell? ⟨hb, off + (4 * k + 2), none⟩ = some (.int .u8 ((f (4*k+2)).toNat : Int)) := by rw [hbl.cell (by assumption)]; exact hc _ (by omega)
      have c3 : wr.cell? ⟨hb, off + (4 * k + 3), none⟩ = some (.int .u8 ((f (4*k+3)).toNat : Int)) := by rw [hbl.cell (by assumption)]; exact hc _ (by omega)
      have f0 := hB.frozen k
      have cB := hB.cell k (by omega)
      clear hc
      go_wp2
      have a0 : IntKind.i64.wrap (4 * (k : Int)) = 4 * k := IntWalk.i64_in _ (by omega)
      have a1 : IntKind.i64.wrap (4 * (k : Int) + 1) = 4 * k + 1 := IntWalk.i64_in _ (by omega)
      have a2 : IntKind.i64.wrap (4 * (k : Int) + 2) = 4 * k + 2 := IntWalk.i64_in _ (by omega)
      have a3 : IntKind.i64.wrap (4 * (k : Int) + 3) = 4 * k + 3 := IntWalk.i64_in _ (by omega)
      have z0 : (0 : Int) ≤ 4 * (k : Int) := by omega
      have z1 : (0 : Int) ≤ 4 * (k : Int) + 1 := by omega
      have z2 : (0 : Int) ≤ 4 * (k : Int) + 2 := by omega
      have z3 : (0 : Int) ≤ 4 * (k : Int) + 3 := by omega
      have y0 : 4 * (k : Int) < 64 := by omega
      have y1 : 4 * (k : Int) + 1 < 64 := by omega
      have y2 : 4 * (k : Int) + 2 < 64 := by omega
      have y3 : 4 * (k : Int) + 3 < 64 := by omega
      have zk : (0 : Int) ≤ (k : Int) := by omega
      have yk : (k : Int) < 64 := by omega
      have t0 : (4 * (k : Int)).toNat = 4 * k := by omega
      have t1 : (4 * (k : Int) + 1).toNat = 4 * k + 1 := by omega
      have t2 : (4 * (k : Int) + 2).toNat = 4 * k + 2 := by omega
      have t3 : (4 * (k : Int) + 3).toNat = 4 * k + 3 := by omega
      go_still_tail 39, (by kernel_rfl)
      clear a0 a1 a2 a3 t0 t1 t2 t3 c0 c1 c2 c3 cB f0
      change wpList _ _ _ _ _ wr.drew
      have hB2 := hB.drew
      have hR2 := hR.drew
      have hbl2 := hbl.drew
      generalize wr.drew = w2 at hB2 hR2 hbl2 ⊢
      have f2 := hB2.frozen k
      have c2 := hB2.cell k (by omega)
      go_wp2
      go_roundw
      case rel =>
        refine ⟨k + 1, fun j => if j = k then wd f k else g j, by omega, by go_num, ?_, ?_, ?_, ?_⟩
        · refine (hB2.set k _).congr fun i hi => ?_
          by_cases e : i = k
          · subst e; simp [wd]
          · simp [e]
        · intro j hj
          by_cases e : j = k
          · subst e; simp
          · simp [e]; exact hg j (by omega)
        · exact hR2.setOther _ _ (by simp)
        · exact hbl2.setCell (by simp) _
      case measure => simp [intOf]; omega
    · have H : Hid (∀ j, j < 16 → g j = tab (wd f) 0 j) := fun j hj => hg j (by omega)
      clear hg hc
      go_wp2
      go_loopw [5] (fun i wr => ∃ (k : Nat) (g : Nat → W32), 16 ≤ k ∧ k ≤ 64 ∧ i = .int .i64 k ∧ Blk wr (w.heap.size + 1) 170 64 (fun j => .int .u32 (U (g j))) ∧ (∀ j, j < k → g j = tab (wd f) (k - 16) j) ∧
          Blk wr w.heap.size 170 64 (fun _ => .int .u32 0) ∧ Below w.heap.size w wr) (fun i _ => 64 - (intOf i).toNat)
      case atStart => exact ⟨16, g, by omega, by omega, rfl, hB, H.out, hR, hbl⟩
      case round =>
        clear hB H hR hbl g
        obtain ⟨k, g, hk16, hk, rfl, hB, hg, hR, hbl⟩ := hrel
        by_cases hlt : k < 64
        · have hB2 := hB.drew
          have hR2 := hR.drew
          have hbl2 := hbl.drew
          have c0 := hB.cell (k - 2) (by omega)
          have c1 := hB.cell (k - 7) (by omega)
          have c2 := hB.cell (k - 15) (by omega)
          have c3 := hB.cell (k - 16) (by omega)
          have a0 : IntKind.i64.wrap ((k : Int) - 2) = k - 2 := IntWalk.i64_in _ (by omega)
          have a1 : IntKind.i64.wrap ((k : Int) - 7) = k - 7 := IntWalk.i64_in _ (by omega)
          have a2 : IntKind.i64.wrap ((k : Int) - 15) = k - 15 := IntWalk.i64_in _ (by omega)
          have a3 : IntKind.i64.wrap ((k : Int) - 16) = k - 16 := IntWalk.i64_in _ (by omega)
          have z0 : (0 : Int) ≤ (k : Int) - 2 := by omega
          have z1 : (0 : Int) ≤ (k : Int) - 7 := by omega
          have z2 : (0 : Int) ≤ (k : Int) - 15 := by omega
          have z3 : (0 : Int) ≤ (k : Int) - 16 := by omega
          have z4 : (0 : Int) ≤ (k : Int) := by omega
          have x0 : (2 : Int) ≤ (k : Int) := by omega
          have x1 : (7 : Int) ≤ (k : Int) := by omega
          have x2 : (15 : Int) ≤ (k : Int) := by omega
          have x3 : (16 : Int) ≤ (k : Int) := by omega
          have y0 : (k : Int) - 2 < 64 := by omega
          have y1 : (k : Int) - 7 < 64 := by omega
          have y2 : (k : Int) - 15 < 64 := by omega
          have y3 : (k : Int) - 16 < 64 := by omega
          have y4 : (k : Int) < 64 := by omega
          have t0 : ((k : Int) - 2).toNat = k - 2 := by omega
          have t1 : ((k : Int) - 7).toNat = k - 7 := by omega
          have t2 : ((k : Int) - 15).toNat = k - 15 := by omega
          have t3 : ((k : Int) - 16).toNat = k - 16 := by omega
          have G : Hid (∀ j, j < k → g j = tab (wd f) (k - 16) j) := hg
          clear hg
          go_wp2
          go_still_tail 23, (by kernel_rfl)
          still_call ((sS1_any _ _).mono fun e w' h => ⟨h.1, h.2.symm⟩)
          repeat still_step
          still_call ((sS0_any _ _).mono fun e w' h => ⟨h.1, h.2.symm⟩)
          repeat still_step
          try refine wpStill_nil ?_
          clear a0 a1 a2 a3 t0 t1 t2 t3 c0 c1 c2 c3
          change wpList _ _ _ _ _ wr.drew
          generalize wr.drew = w2 at hB2 hR2 hbl2 ⊢
          have f2 := hB2.frozen k
          have c2 := hB2.cell k (by omega)
          go_wp2
          go_roundw
          case rel =>
            refine ⟨k + 1, fun j => if j = k then sS1 (g (k - 2)) + g (k - 7) + sS0 (g (k - 15)) + g (k - 16) else g j, by omega, by omega, by go_num, ?_, ?_, ?_, ?_⟩
            · refine (hB2.set k _).congr fun i hi => ?_
              by_cases e : i = k
              · subst e; simp
              · simp [e]
            · exact tab_step _ _ _ hk16 G.out
            · exact hR2.setOther _ _ (by simp)
            · exact hbl2.setCell (by simp) _
          case measure => simp [intOf]; omega
        · have e : Hid (k = 64) := by show k = 64; omega
          have G : Hid (∀ j, j < k → g j = tab (wd f) (k - 16) j) := hg
          clear hg
          go_upto_region 11 with fail
          apply wp_region_lit
          refine wpList_load_blk rfl 170 (.tmp 3) rfl (w.heap.size + 1) rfl 170 64 (fun j => .int .u32 (U (g j))) hB _ ty58 rfl sz58 ?_
          refine wpList_store_blk rfl 170 (.tmp 2) (.tmp 76) rfl w.heap.size 64 (fun j => .int .u32 (U (g j))) (fun _ => .int .u32 0) rfl rfl 170 hR sz58 (fun _ _ => rfl) ?_
          have hR2 := hR.setRow (fun j => .int .u32 (U (g j)))
          have hb2 := below_setRow hbl (Nat.le_refl _) (arr 64 (fun j => .int .u32 (U (g j))))
          generalize wr.setRow w.heap.size (arr 64 (fun j => .int .u32 (U (g j)))) = w3 at hR2 hb2 ⊢
          go_wp2
          refine bodyPost_ret (v := .agg (arr 64 (fun j => .int .u32 (U (g j))))) (results_blk rfl _ _ w.heap.size 170 64 _ hR2 _ rfl ty58 rfl sz58) rfl ⟨?_, hb2⟩
          have hk64 : k = 64 := e.out
          subst hk64
          exact congrArg (fun a => Ending.returned (.agg a)) (arr_congr fun i hi => by rw [G.out i hi]; rfl)
end Go.Proofs.YtnmjcpoobabjgaaGreatDoor.Dg
namespace Go.Proofs.YtnmjcpoobabjgaaGreatDoor.Dg
open Go.RowKit
def wv (f : Nat → W32) (i : Nat) : Value := .int .u32 (U (f i))
def bv (f : Nat → UInt8) (i : Nat) : Value := .int .u8 ((f i).toNat : Int)
/- the hash's 73 cells -/
def hv (st : Nat → W32) (blk : Nat → UInt8) (n : Nat) (i : Nat) : Value :=
  if i < 8 then wv st i else if i < 72 then bv blk (i - 8) else .int .u64 (n : Int)

theorem Blk.setCells {b E n : Nat} : ∀ (vs : List Value) (o : Nat) (w : World) (f : Nat → Value), Blk w b E n f → 
    Blk (w.setCells b o vs) b E n (fun i => if o ≤ i ∧ i < o + vs.length then vs.getD (i - o) undef else f i)
  | [], o, w, f, h => by
    refine Blk.congr (f := f) h fun i hi => ?_
    rw [if_neg (fun e => by simp at e; omega)]
  | v :: r, o, w, f, h => by
    refine (Blk.setCells r (o + 1) _ _ (h.set o v)).congr fun i hi => ?_
    by_cases e : i = o
    · subst e
      rw [if_neg (by omega), if_pos rfl, if_pos (by simp)]; simp
    · by_cases e2 : o + 1 ≤ i ∧ i < o + 1 + r.length
      · rw [if_pos e2, if_pos (by simp; omega)]
        obtain ⟨m, rfl⟩ : ∃ m, i = o + 1 + m := ⟨i - (o + 1), by omega⟩
        rw [show o + 1 + m - (o + 1) = m by omega, show o + 1 + m - o = m + 1 by omega]
        simp
      · rw [if_neg e2, if_neg e, if_neg (by simp; omega)]
theorem setCells_grown (b : Nat) : ∀ (vs : List Value) (o : Nat) (w : World), w.grownBy (w.setCells b o vs) (some b)
  | [], o, w => ⟨rfl, rfl, rfl, Nat.le_refl _, fun _ _ _ => rfl⟩
  | v :: r, o, w => by
    have h := setCells_grown b r (o + 1) (w.setCell ⟨b, o, none⟩ v)
    exact ⟨h.os, h.tape, h.output, by have := h.size; rw [World.size_setCell] at this; exact this, fun k hk hne => by
      rw [show w.setCells b o (v :: r) = (w.setCell ⟨b, o, none⟩ v).setCells b (o + 1) r from rfl, h.block k (by simpa using hk) hne]
      exact heap_setCell_other w _ k v (fun e => hne (by rw [e]))⟩
theorem grown_refl (w : World) (r : Option Nat) : w.grownBy w r := ⟨rfl, rfl, rfl, Nat.le_refl _, fun _ _ _ => rfl⟩
theorem grown_trans {a b c : World} {r : Option Nat} (h : a.grownBy b r) (k : b.grownBy c r) : a.grownBy c r :=
  ⟨k.os.trans h.os, k.tape.trans h.tape, k.output.trans h.output, Nat.le_trans h.size k.size, fun i hi hne => (k.block i (Nat.lt_of_lt_of_le hi h.size) hne).trans (h.block i hi hne)⟩
theorem grown_below {a b : World} (h : Below a.heap.size a b) (r : Option Nat) : a.grownBy b r :=
  ⟨h.os, h.tape, h.output, h.size, fun i hi _ => h.block i hi⟩
theorem grown_drewN (w : World) (n : Nat) (r : Option Nat) : w.grownBy (w.drewN n) r := ⟨rfl, rfl, rfl, Nat.le_refl _, fun _ _ _ => rfl⟩
theorem grown_setCell (w : World) (b o : Nat) (v : Value) : w.grownBy (w.setCell ⟨b, o, none⟩ v) (some b) := setCells_grown b [v] o w
theorem below_grown {B hb : Nat} {w0 w w' : World} (h : Below B w0 w) (hg : w.grownBy w' (some hb)) (hB : B ≤ w.heap.size) (hhb : B ≤ hb) : Below B w0 w' :=
  h.grown hg hB (fun k hk => by cases hk; exact hhb)
theorem Blk.grown {w w' : World} {b hb E n f} (h : Blk w b E n f) (hg : w.grownBy w' (some hb)) (hne : b ≠ hb) : Blk w' b E n f := by
  have hl := h.lt
  unfold Blk at *
  rw [hg.block b hl (by simp [hne])]; exact h
theorem cell_grown {w w' : World} {hb : Nat} {a : Addr} {v : Value} (hg : w.grownBy w' (some hb)) (h : w.cell? a = some v) (hne : a.block ≠ hb) : w'.cell? a = some v :=
  hg.cell h (by simp [hne])
section
variable {P : Program}
/- copy(dst, s) of a string into a block's cells -/
def strCells (s : ByteArray) (m : Nat) : List Value := List.take m (List.map (fun b => Value.int .u8 b.toNat) s.data.toList)
theorem strCells_length (s : ByteArray) (m : Nat) (hm : m ≤ s.size) : (strCells s m).length = m := by
  have hm' : m ≤ s.data.size := hm
  simp [strCells]; omega
theorem strCells_get (s : ByteArray) (m j : Nat) (hm : m ≤ s.size) (hj : j < m) : (strCells s m).getD j undef = .int .u8 ((s.data.toList.getD j 0).toNat : Int) := by
  have hm' : m ≤ s.data.size := hm
  have hl := strCells_length s m hm
  rw [List.getD_eq_getElem?_getD, List.getElem?_eq_getElem (by omega)]
  have hs : j < s.data.toList.length := by simp; omega
  rw [List.getD_eq_getElem?_getD, List.getElem?_eq_getElem hs]
  simp [strCells]
theorem strCells_one (s : ByteArray) (m : Nat) : ∀ v ∈ strCells s m, v.oneCell' = true := by
  intro v hv
  have hv := List.mem_of_mem_take hv
  rw [List.mem_map] at hv
  obtain ⟨x, _, rfl⟩ := hv
  rfl
theorem run_copy_str (w : World) (dT sT ty elem : TypeId) (b o dLen dCap : Nat) (s : ByteArray)
    (hu : P.underlying dT = some (.slice elem)) (hs : (P.info? elem).map (·.size) = some 1) (m : Nat) (hm : Nat.min s.size dLen = m)
    (ht : w.there b o m) :
    (Builtin.copy_ #[dT, sT] ty #[.slice (some ⟨b, o, none⟩) dLen dCap, .string s]).run P w = .ok (goInt m) (w.setCells b o (strCells s m)) := by
  have hms : m ≤ s.size := by rw [← hm]; exact Nat.min_le_left _ _
  have hl := strCells_length s m hms
  have hst := run_storeCells_cells (P := P) b o (strCells s m) 0 w (fun j hj => by rw [hl] at hj; simpa using (ht j hj).1) (fun j hj => by rw [hl] at hj; simpa using (ht j hj).2) (strCells_one s m)
  simp only [Nat.add_zero, strCells] at hst
  cases hq : P.info? elem with
  | none => simp [hq] at hs
  | some i =>
    simp only [Builtin.copy_, List.getElem?_toArray, List.getElem?_cons_zero, List.getElem?_cons_succ, Sem.run_bind, run_underlying hu, Builtin.lenOf, Result.andThen_ok, Sem.run_pure, Builtin.firstCells, sizeOf, typeInfo, hq, hm]
    simp [hq, hst, strCells]
theorem wpList_copy_str {w : World} {ops : Array Oper} {rest : List Oper} {o : Oper} {a : Act} {Q : Exit → Act → World → Prop} (hgd : o.guard = none) (d s : Operand) (dT sT : TypeId)
    (ho : o.op = .call { callee := .builtin .copy, args := #[d, s], argTypes := #[dT, sT] }) (elem : TypeId) (hu : P.underlying dT = some (.slice elem)) (hsz : (P.info? elem).map (·.size) = some 1)
    (b off dLen dCap : Nat) (str : ByteArray) (hd : a.eval d = .slice (some ⟨b, off, none⟩) dLen dCap) (hs : a.eval s = .string str)
    (m : Nat) (hm : Nat.min str.size dLen = m) (ht : w.there b off m)
    (h : wpList P ops Q rest (a.put o.dst (goInt m)) (w.setCells b off (strCells str m))) : wpList P ops Q (o :: rest) a w := by
  refine wpList_plain hgd fun K hK => ?_
  have hrun := run_copy_str (P := P) w dT sT o.type elem b off dLen dCap str hu hsz m hm ht
  unfold Oper.wp
  simp [execOp, ho, resolve, invoke, builtin, hd, hs, hrun, Result.andThen]
  exact hK _ _ h
/- x[i] of an array by value -/
theorem run_index_arr (w : World) (ty elem : TypeId) (n : Nat) (f : Nat → Value) (k : IntKind) (i : Nat) (hu : P.underlying ty = some (.array n elem)) (hs : (P.info? elem).map (·.size) = some 1)
    (ha : P.underlying elem = some (.int .u32)) (hi : i < n) :
    (Instr.index ty (.agg (arr n f)) (.int k (i : Int))).run P w = .ok (f i) w := by
  cases hq : P.info? elem with
  | none => simp [hq] at hs
  | some d =>
    have hd : d.size = 1 := by simpa [hq] using hs
    have hagg : (isAgg elem).run P w = .ok false w := by
      unfold isAgg
      rw [Sem.run_bind, run_underlying ha w]; rfl
    have hp : (part elem (arr n f) i).run P w = .ok (f i) w := by
      unfold part
      rw [Sem.run_bind, hagg]
      simp [arr_get n f i hi]
    have hai : (asIntOf (.int k (i : Int))).run P w = .ok (k, (i : Int)) w := rfl
    simp [Instr.index, run_underlying hu, sizeOf, typeInfo, hq, hd, hi, hai, hp]
theorem oneCell_arr {n : Nat} {f : Nat → Value} (h : ∀ i, i < n → (f i).oneCell' = true) : (arr n f).all (·.oneCell') = true :=
    Array.all_eq_true_iff_forall_mem.2 (fun v hv => by
      unfold arr at hv
      rw [Array.mem_ofFn] at hv
      obtain ⟨i, rfl⟩ := hv
      exact h i i.isLt)
theorem Blk.head {w : World} {b E n : Nat} {f : Nat → Value} (h : Blk w b E n f) (m : Nat) (g : Nat → Value) (hm : m ≤ n) (hg : ∀ i, i < m → f i = g i) : w.rangeAt b 0 (arr m g).toList := by
  have := h.range 0 m (by omega)
  rw [arr_congr (g := g) (fun i hi => by rw [Nat.zero_add]; exact hg i hi)] at this
  exact this
/- clear(s) of a slice of bytes -/
theorem wpList_clear {w : World} {ops : Array Oper} {rest : List Oper} {o : Oper} {a : Act} {Q : Exit → Act → World → Prop} (hgd : o.guard = none) (hdst : o.dst = none) (d : Operand) (dT : TypeId)
    (ho : o.op = .call { callee := .builtin .clear, args := #[d], argTypes := #[dT] }) (elem : TypeId) (z : Value) (hu : P.underlying dT = some (.slice elem)) (hz : ∀ w, (zeroValue elem).run P w = .ok z w) (hzc : z.cells = #[z]) (hz1 : z.oneCell' = true)
    (b off n c : Nat) (hn : 0 < n) (hd : a.eval d = .slice (some ⟨b, off, none⟩) n c) (ht : w.there b off n)
    (h : wpList P ops Q rest a (w.setCells b off (List.replicate n z))) : wpList P ops Q (o :: rest) a w := by
  refine wpList_plain hgd fun K hK => ?_
  have hrun := Lib.run_clear_slice (P := P) w dT elem o.type z hu hz hzc hz1 b off n c hn (fun j hj => (ht j hj).1) (fun j hj => (ht j hj).2)
  unfold Oper.wp
  simp [execOp, ho, resolve, invoke, builtin, hd, hrun, Result.andThen, hdst]
  have e : a.put o.dst (.tuple #[]) = a := by rw [hdst]; rfl
  exact hK _ _ (by rw [e]; exact h)
end
end Go.Proofs.YtnmjcpoobabjgaaGreatDoor.Dg
