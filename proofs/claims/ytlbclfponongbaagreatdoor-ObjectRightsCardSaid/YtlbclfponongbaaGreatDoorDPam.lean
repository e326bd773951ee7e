import Derived.Laws.BitsAllLaws
import Derived.Laws.Shifts
import Derived.Test.YtlbclfponongbaaGreatDoorProg
import Derived.WalkKit
import Derived.WalkSpells
import Derived.WalkLawsBesides
import Derived.WalkSmall
import Derived.Deep.Draws
import Derived.Deep.MidRow
import Derived.Laws.CopyOwn
import Derived.Deep.QuietTactic
import Derived.BigQuiet
import Derived.BigRegion
import Derived.StillTailTactics
import Derived.Deep.Cut
import Derived.Lib.SliceRun
import Derived.Deep.WholeRow
import Derived.Lib.Hide
namespace Go.Proofs.YtlbclfponongbaaGreatDoor.Dg
/- plain mathematics: 32-bit words -/
abbrev W32 := BitVec 32
def U (x : W32) : Int := (x.toNat : Int)
def rr (x : W32) (n : Nat) : W32 := x <<< (32 - n) ||| x >>> n
def sS0 (x : W32) : W32 := rr x 7 ^^^ rr x 18 ^^^ x >>> 3
def sS1 (x : W32) : W32 := rr x 17 ^^^ rr x 19 ^^^ x >>> 10
def bS0 (x : W32) : W32 := rr x 2 ^^^ rr x 13 ^^^ rr x 22
def bS1 (x : W32) : W32 := rr x 6 ^^^ rr x 11 ^^^ rr x 25

theorem U_ge (x : W32) : 0 ≤ U x := by unfold U; omega
theorem U_lt (x : W32) : U x < 4294967296 := by unfold U; have := x.isLt; omega
theorem U_xor (x y : W32) : bits .xor .u32 (U x) (U y) = U (x ^^^ y) := by
  unfold U; rw [u32_xor_nat _ _ (by have := x.isLt; omega) (by have := y.isLt; omega), BitVec.toNat_xor]
theorem U_and (x y : W32) : bits .and .u32 (U x) (U y) = U (x &&& y) := by
  unfold U; rw [u32_and_nat _ _ (by have := x.isLt; omega) (by have := y.isLt; omega), BitVec.toNat_and]
theorem U_or (x y : W32) : bits .or .u32 (U x) (U y) = U (x ||| y) := by
  unfold U; rw [u32_or_nat _ _ (by have := x.isLt; omega) (by have := y.isLt; omega), BitVec.toNat_or]
theorem U_add (x y : W32) : IntKind.u32.wrap (U x + U y) = U (x + y) := by
  unfold U; rw [IntKind.wrap_u32', BitVec.toNat_add]; omega
theorem U_addm (x y : W32) : (U x + U y) % 4294967296 = U (x + y) := by
  unfold U; rw [BitVec.toNat_add]; omega
theorem U_shl (x : W32) (n : Nat) : IntKind.u32.wrap (U x * 2 ^ n) = U (x <<< n) := by
  unfold U; rw [IntKind.wrap_u32', BitVec.toNat_shiftLeft, Nat.shiftLeft_eq, Int.natCast_emod, Int.natCast_mul, Int.natCast_pow]; rfl
theorem U_shr (x : W32) (n : Nat) : U x / 2 ^ n = U (x >>> n) := by
  unfold U; rw [BitVec.toNat_ushiftRight, Nat.shiftRight_eq_div_pow, Int.natCast_ediv, Int.natCast_pow]; rfl
theorem U_shr3 (x : W32) : U x / (8 : Int) = U (x >>> 3) := U_shr x 3
theorem U_shr10 (x : W32) : U x / (1024 : Int) = U (x >>> 10) := U_shr x 10
theorem U_xor10 (a x : W32) : bits .xor .u32 (U a) (U x / (1024 : Int)) = U (a ^^^ x >>> 10) := by rw [U_shr10, U_xor]
theorem U_xor3 (a x : W32) : bits .xor .u32 (U a) (U x / (8 : Int)) = U (a ^^^ x >>> 3) := by rw [U_shr3, U_xor]
theorem U_shlm (x : W32) (n : Nat) : (U x <<< n) % 4294967296 = U (x <<< n) := by
  rw [Int.shiftLeft_eq, ← U_shl, IntKind.wrap_u32']
theorem U_shrm (x : W32) (n : Nat) : (U x >>> n) = U (x >>> n) := by
  rw [Int.shiftRight_eq_div_pow, ← U_shr, Int.natCast_pow]; rfl
/- a block's words -/
def X8 (b : UInt8) : W32 := b.toBitVec.setWidth 32
def wd (f : Nat → UInt8) (j : Nat) : W32 := X8 (f (4 * j)) <<< 24 ||| X8 (f (4 * j + 1)) <<< 16 ||| X8 (f (4 * j + 2)) <<< 8 ||| X8 (f (4 * j + 3))
theorem U_X8 (b : UInt8) : ((b.toNat : Nat) : Int) = U (X8 b) := by
  unfold U X8
  rw [BitVec.toNat_setWidth]
  have := b.toNat_lt
  show ((b.toBitVec.toNat : Nat) : Int) = _
  have h2 : b.toBitVec.toNat = b.toNat := rfl
  rw [h2, Nat.mod_eq_of_lt (by omega)]
theorem U_w8 (b : UInt8) : IntKind.u32.wrap ((b.toNat : Nat) : Int) = U (X8 b) := by
  rw [U_X8, IntKind.wrap_u32']; have := U_ge (X8 b); have := U_lt (X8 b); omega
theorem U_shl24 (x : W32) : IntKind.u32.wrap (U x * (16777216 : Int)) = U (x <<< 24) := U_shl x 24
theorem U_shl16 (x : W32) : IntKind.u32.wrap (U x * (65536 : Int)) = U (x <<< 16) := U_shl x 16
theorem U_shl8 (x : W32) : IntKind.u32.wrap (U x * (256 : Int)) = U (x <<< 8) := U_shl x 8
/- the words that follow: one more at each step -/
def tab (d : Nat → W32) : Nat → Nat → W32
  | 0 => d
  | n + 1 => fun j => if j = 16 + n then sS1 (tab d n (14 + n)) + tab d n (9 + n) + sS0 (tab d n (1 + n)) + tab d n n else tab d n j
def sch (d : Nat → W32) : Nat → W32 := tab d 48
theorem tab_step (d g : Nat → W32) (k : Nat) (h16 : 16 ≤ k) (hg : ∀ j, j < k → g j = tab d (k - 16) j) :
    ∀ j, j < k + 1 → (if j = k then sS1 (g (k - 2)) + g (k - 7) + sS0 (g (k - 15)) + g (k - 16) else g j) = tab d (k + 1 - 16) j := by
  obtain ⟨n, rfl⟩ : ∃ n, k = 16 + n := ⟨k - 16, by omega⟩
  intro j hj
  rw [show 16 + n + 1 - 16 = n + 1 by omega]
  rw [show 16 + n - 16 = n by omega] at *
  unfold tab
  by_cases e : j = 16 + n
  · rw [if_pos e, if_pos e, hg _ (by omega), hg _ (by omega), hg _ (by omega), hg _ (by omega), show 16 + n - 2 = 14 + n by omega, show 16 + n - 7 = 9 + n by omega, show 16 + n - 15 = 1 + n by omega]
  · rw [if_neg e, if_neg e, hg _ (by omega)]
/- a round, and all of them -/
def kl : List W32 := [0x428a2f98#32, 0x71374491#32, 0xb5c0fbcf#32, 0xe9b5dba5#32, 0x3956c25b#32, 0x59f111f1#32, 0x923f82a4#32, 0xab1c5ed5#32, 0xd807aa98#32, 0x12835b01#32, 0x243185be#32, 0x550c7dc3#32, 0x72be5d74#32, 0x80deb1fe#32, 0x9bdc06a7#32, 0xc19bf174#32, 0xe49b69c1#32, 0xefbe4786#32, 0x0fc19dc6#32, 0x240ca1cc#32, 0x2de92c6f#32, 0x4a7484aa#32, 0x5cb0a9dc#32, 0x76f988da#32, 0x983e5152#32, 0xa831c66d#32, 0xb00327c8#32, 0xbf597fc7#32, 0xc6e00bf3#32, 0xd5a79147#32, 0x06ca6351#32, 0x14292967#32, 0x27b70a85#32, 0x2e1b2138#32, 0x4d2c6dfc#32, 0x53380d13#32, 0x650a7354#32, 0x766a0abb#32, 0x81c2c92e#32, 0x92722c85#32, 0xa2bfe8a1#32, 0xa81a664b#32, 0xc24b8b70#32, 0xc76c51a3#32, 0xd192e819#32, 0xd6990624#32, 0xf40e3585#32, 0x106aa070#32, 0x19a4c116#32, 0x1e376c08#32, 0x2748774c#32, 0x34b0bcb5#32, 0x391c0cb3#32, 0x4ed8aa4a#32, 0x5b9cca4f#32, 0x682e6ff3#32, 0x748f82ee#32, 0x78a5636f#32, 0x84c87814#32, 0x8cc70208#32, 0x90befffa#32, 0xa4506ceb#32, 0xbef9a3f7#32, 0xc67178f2#32]
def kk (i : Nat) : W32 := kl.getD i 0#32
structure St where
  a : W32
  b : W32
  c : W32
  d : W32
  e : W32
  f : W32
  g : W32
  h : W32
def Tt (ws : Nat → W32) (i : Nat) (s : St) : W32 := s.h + bS1 s.e + (s.e &&& s.f ^^^ ~~~s.e &&& s.g) + kk i + ws i
def Uu (s : St) : W32 := bS0 s.a + (s.a &&& s.b ^^^ s.a &&& s.c ^^^ s.b &&& s.c)
def rnd (ws : Nat → W32) (i : Nat) (s : St) : St := ⟨Tt ws i s + Uu s, s.a, s.b, s.c, s.d + Tt ws i s, s.e, s.f, s.g⟩
def rnds (ws : Nat → W32) (s : St) : Nat → St
  | 0 => s
  | n + 1 => rnd ws n (rnds ws s n)
/- the state as a function -/
def stOf (f : Nat → W32) : St := ⟨f 0, f 1, f 2, f 3, f 4, f 5, f 6, f 7⟩
def ofSt (s : St) (i : Nat) : W32 := match i with
  | 0 => s.a | 1 => s.b | 2 => s.c | 3 => s.d | 4 => s.e | 5 => s.f | 6 => s.g | _ => s.h
def cmpr (f : Nat → W32) (blk : Nat → UInt8) (i : Nat) : W32 := f i + ofSt (rnds (sch (wd blk)) (stOf f) 64) i
theorem U_not (x : W32) : bits .xor .u32 (if IntKind.u32.signed = true then -1 else IntKind.u32.max) (U x) = U (~~~x) := by
  have e : (if IntKind.u32.signed = true then (-1 : Int) else IntKind.u32.max) = U (BitVec.allOnes 32) := by rfl
  rw [e, U_xor]
  congr 1
theorem neg_and31 : ∀ n : Nat, n < 32 → 0 < n → bits .and .u64 (IntKind.u64.wrap (-(n : Int))) 31 = ((32 - n : Nat) : Int) := by decide +kernel
end Go.Proofs.YtlbclfponongbaaGreatDoor.Dg
namespace Go.Proofs.YtlbclfponongbaaGreatDoor.Dg
open Go.RowKit
attribute [local go_sem] U_xor U_and U_or U_add U_addm U_shl U_shr U_shlm U_shrm U_xor3 U_xor10
set_option maxHeartbeats 400000 in
theorem rot_any (x : W32) (n : Nat) (w : World) (h0 : 0 < n) (h1 : n < 32) :
    Calls Tryz.prog 104 #[.int .u32 (U x), .int .i64 (-(n:Int))] w fun e w' => e = .returned (.int .u32 (U (rr x n))) ∧ w = w' := by
  have e1 := neg_and31 n h1 h0
  have l0 := U_ge x
  have l1 := U_lt x
  go_enter Tryz.func104, Tryz.ntmps104
  go_wp2
  go_ret
  rw [show 32 - (32 - n) = n by omega]
  exact ⟨rfl, rfl⟩
set_option maxHeartbeats 400000 in
theorem tr_any (x : W32) (n : Nat) (w : World) (h0 : 0 < n) (h1 : n < 32) :
    Calls Tryz.prog 101 #[.int .u32 (U x), .int .i64 n] w fun e w' => e = .returned (.int .u32 (U (rr x n))) ∧ w = w' := by
  go_enter Tryz.func101, Tryz.ntmps101
  go_wp2_with fail
  refine (rot_any x n _ h0 h1).mono ?_
  rintro e w' ⟨rfl, rfl⟩
  go_wp2
  go_ret
  exact ⟨rfl, rfl⟩
theorem tr_at (x : W32) (k : Int) (n : Nat) (w : World) (hk : k = n) (h0 : 0 < n) (h1 : n < 32) :
    Calls Tryz.prog 101 #[.int .u32 (U x), .int .i64 k] w fun e w' => e = .returned (.int .u32 (U (rr x n))) ∧ w = w' := by
  subst hk; exact tr_any x n w h0 h1
set_option maxHeartbeats 400000 in
theorem bS1_any (x : W32) (w : World) :
    Calls Tryz.prog 88 #[.int .u32 (U x)] w fun e w' => e = .returned (.int .u32 (U (bS1 x))) ∧ w = w' := by
  go_enter Tryz.func88, Tryz.ntmps88
  go_wp2_with fail
  refine (tr_at x 6 6 _ rfl (by omega) (by omega)).mono ?_
  rintro e w' ⟨rfl, rfl⟩
  go_wp2_with fail
  refine (tr_at x 11 11 _ rfl (by omega) (by omega)).mono ?_
  rintro e w' ⟨rfl, rfl⟩
  go_wp2_with fail
  refine (tr_at x 25 25 _ rfl (by omega) (by omega)).mono ?_
  rintro e w' ⟨rfl, rfl⟩
  go_wp2_with fail
  go_ret
  exact ⟨rfl, rfl⟩
set_option maxHeartbeats 400000 in
theorem bS0_any (x : W32) (w : World) :
    Calls Tryz.prog 89 #[.int .u32 (U x)] w fun e w' => e = .returned (.int .u32 (U (bS0 x))) ∧ w = w' := by
  go_enter Tryz.func89, Tryz.ntmps89
  go_wp2_with fail
  refine (tr_at x 2 2 _ rfl (by omega) (by omega)).mono ?_
  rintro e w' ⟨rfl, rfl⟩
  go_wp2_with fail
  refine (tr_at x 13 13 _ rfl (by omega) (by omega)).mono ?_
  rintro e w' ⟨rfl, rfl⟩
  go_wp2_with fail
  refine (tr_at x 22 22 _ rfl (by omega) (by omega)).mono ?_
  rintro e w' ⟨rfl, rfl⟩
  go_wp2_with fail
  go_ret
  exact ⟨rfl, rfl⟩
set_option maxHeartbeats 400000 in
theorem sS1_any (x : W32) (w : World) :
    Calls Tryz.prog 99 #[.int .u32 (U x)] w fun e w' => e = .returned (.int .u32 (U (sS1 x))) ∧ w = w' := by
  have l0 := U_ge x
  have l1 := U_lt x
  go_enter Tryz.func99, Tryz.ntmps99
  go_wp2_with fail
  refine (tr_at x 17 17 _ rfl (by omega) (by omega)).mono ?_
  rintro e w' ⟨rfl, rfl⟩
  go_wp2_with fail
  refine (tr_at x 19 19 _ rfl (by omega) (by omega)).mono ?_
  rintro e w' ⟨rfl, rfl⟩
  go_wp2_with fail
  go_ret
  exact ⟨rfl, rfl⟩
set_option maxHeartbeats 400000 in
theorem sS0_any (x : W32) (w : World) :
    Calls Tryz.prog 100 #[.int .u32 (U x)] w fun e w' => e = .returned (.int .u32 (U (sS0 x))) ∧ w = w' := by
  have l0 := U_ge x
  have l1 := U_lt x
  go_enter Tryz.func100, Tryz.ntmps100
  go_wp2_with fail
  refine (tr_at x 7 7 _ rfl (by omega) (by omega)).mono ?_
  rintro e w' ⟨rfl, rfl⟩
  go_wp2_with fail
  refine (tr_at x 18 18 _ rfl (by omega) (by omega)).mono ?_
  rintro e w' ⟨rfl, rfl⟩
  go_wp2_with fail
  go_ret
  exact ⟨rfl, rfl⟩
end Go.Proofs.YtlbclfponongbaaGreatDoor.Dg
namespace Go.Proofs.YtlbclfponongbaaGreatDoor.Dg
open Go.RowKit
/- n values as a function tells them -/
def arr (n : Nat) (f : Nat → Value) : Array Value := Array.ofFn (fun i : Fin n => f i)
theorem arr_size (n : Nat) (f : Nat → Value) : (arr n f).size = n := by simp [arr]
theorem arr_congr {n : Nat} {f g : Nat → Value} (h : ∀ i, i < n → f i = g i) : arr n f = arr n g := by
  unfold arr
  apply Array.ext
  · simp
  · intro i h1 h2
    simp at h1
    simp [h i h1]
theorem arr_get (n : Nat) (f : Nat → Value) (i : Nat) (h : i < n) : (arr n f)[i]? = some (f i) := by simp [arr, h]
/- a block of n cells that reads as a function -/
def Blk (w : World) (b : Nat) (E : TypeId) (n : Nat) (f : Nat → Value) : Prop :=
  w.heap[b]? = some (.cells (arr n f) E (0, 0))

theorem Blk.lt {w : World} {b E n f} (h : Blk w b E n f) : b < w.heap.size := by
  unfold Blk at h
  by_cases hlt : b < w.heap.size
  · exact hlt
  · have hn : w.heap[b]? = none := by simp; omega
    rw [hn] at h; cases h
theorem Blk.cell {w : World} {b E n f} (h : Blk w b E n f) (i : Nat) (hi : i < n) : w.cell? ⟨b, i, none⟩ = some (f i) := by
  rw [cell_of_row w b i _ E _ h]
  exact arr_get n f i hi
theorem Blk.frozen {w : World} {b E n f} (h : Blk w b E n f) (i : Nat) : w.frozen? ⟨b, i, none⟩ = false :=
  frozen_of_row w b i _ E h
theorem Blk.congr {w : World} {b E n f g} (h : Blk w b E n f) (hfg : ∀ i, i < n → f i = g i) : Blk w b E n g := by
  unfold Blk at *
  rw [h, arr_congr hfg]
theorem Blk.set {w : World} {b E n f} (h : Blk w b E n f) (i : Nat) (v : Value) : Blk (w.setCell ⟨b, i, none⟩ v) b E n (fun j => if j = i then v else f j) := by
  unfold Blk at *
  rw [heap_setCell_same w b i _ E v h]
  congr 2
  unfold arr
  apply Array.ext
  · simp
  · intro j h1 h2
    simp at h1
    rw [Array.getElem_setIfInBounds (by simpa using h1)]
    simp only [Array.getElem_ofFn]
    by_cases e : i = j
    · subst e; simp
    · rw [if_neg e, if_neg (fun e' => e e'.symm)]
theorem Blk.setOther {w : World} {b E n f} (h : Blk w b E n f) (a : Addr) (v : Value) (ha : a.block ≠ b) : Blk (w.setCell a v) b E n f := by
  unfold Blk at *
  rw [heap_setCell_other w a b v (fun e => ha e.symm)]; exact h
theorem Blk.alloc {w : World} {b E n f} (h : Blk w b E n f) (o : Obj) : Blk (w.alloc o) b E n f := by
  have hl := h.lt
  unfold Blk at *
  show (w.heap.push o)[b]? = _
  rw [Array.getElem?_push, if_neg (Nat.ne_of_lt hl)]; exact h
theorem Blk.drew {w : World} {b E n f} (h : Blk w b E n f) : Blk w.drew b E n f := h
theorem Blk.drewN {w : World} {b E n f} (h : Blk w b E n f) (q : Nat) : Blk (w.drewN q) b E n f := by
  unfold Blk at *; simpa using h
theorem Blk.below {w w' : World} {B b E n f} (h : Blk w b E n f) (hb : Below B w w') (hlt : b < B) : Blk w' b E n f := by
  unfold Blk at *
  rw [hb.block b hlt]; exact h
theorem Blk.new (w : World) (cs : Array Value) (E : TypeId) (n : Nat) (f : Nat → Value) (hc : cs = arr n f) : Blk (w.alloc (.cells cs E)) w.heap.size E n f := by
  unfold Blk
  rw [heap_alloc_new, hc]
theorem Blk.newAt {w : World} {b : Nat} {cs : Array Value} {E : TypeId} {n : Nat} (f : Nat → Value) (h : w.heap[b]? = some (.cells cs E (0,0))) (hc : cs = arr n f) : Blk w b E n f := by
  unfold Blk
  rw [h, hc]
theorem Blk.setRow {w : World} {b E n f} (h : Blk w b E n f) (g : Nat → Value) : Blk (w.setRow b (arr n g)) b E n g := by
  unfold Blk at *
  exact setRow_heap w b _ _ E _ h
theorem Blk.setRowOther {w : World} {b E n f} (h : Blk w b E n f) (k : Nat) (cs : Array Value) (hk : k ≠ b) : Blk (w.setRow k cs) b E n f := by
  unfold Blk at *
  rw [setRow_other w k b cs (fun e => hk e.symm)]; exact h
theorem Blk.range {w : World} {b E n f} (h : Blk w b E n f) (o m : Nat) (hm : o + m ≤ n) : w.rangeAt b o (arr m (fun i => f (o + i))).toList := by
  intro j v hv
  have hj : j < m := by
    have := (List.getElem?_eq_some_iff.1 hv).1
    simpa [arr_size] using this
  have e : (arr m (fun i => f (o + i))).toList[j]? = some (f (o + j)) := by
    rw [Array.getElem?_toList]; exact arr_get _ _ _ hj
  rw [e] at hv
  cases hv
  exact h.cell _ (by omega)
theorem Blk.there {w : World} {b E n f} (h : Blk w b E n f) (o m : Nat) (hm : o + m ≤ n) : w.there b o m := fun j hj =>
  ⟨by rw [h.cell _ (by omega)]; rfl, h.frozen _⟩

section
variable {P : Program}
theorem wpList_load_blk {ops : Array Oper} {rest : List Oper} {o : Oper} {a : Act} {w : World} {Q : Exit → Act → World → Prop} (hgd : o.guard = none) (ty : TypeId) (x : Operand) (ho : o.op = .load ty x)
    (g : Nat) (hx : a.eval x = .pointer (some ⟨g, 0, none⟩)) (E : TypeId) (n : Nat) (f : Nat → Value) (hB : Blk w g E n f) (d : TypeDesc)
    (hu : P.underlying ty = some d) (hd : (match d with | .struct _ | .array _ _ => true | _ => false) = true) (hi : (P.info? ty).map (·.size) = some n)
    (h : wpList P ops Q rest (a.put o.dst (.agg (arr n f))) w) : wpList P ops Q (o :: rest) a w :=
  wpList_load_row hgd ty x ho g hx E (arr n f) (0, 0) d hB hu hd (by rw [arr_size]; exact hi) h
theorem wpList_store_blk {ops : Array Oper} {rest : List Oper} {o : Oper} {a : Act} {w : World} {Q : Exit → Act → World → Prop} (hgd : o.guard = none) (ty : TypeId) (x y : Operand) (ho : o.op = .store ty x y)
    (g : Nat) (n : Nat) (f fo : Nat → Value) (hx : a.eval x = .pointer (some ⟨g, 0, none⟩)) (hy : a.eval y = .agg (arr n f)) (E : TypeId) (hB : Blk w g E n fo)
    (hi : (P.info? ty).map (·.size) = some n) (h1 : ∀ i, i < n → (f i).oneCell' = true)
    (h : wpList P ops Q rest (a.put o.dst undef) (w.setRow g (arr n f))) : wpList P ops Q (o :: rest) a w :=
  wpList_store_row hgd ty x y ho g (arr n f) hx hy E (arr n fo) hB (by rw [arr_size]; exact hi) (by rw [arr_size, arr_size])
    (Array.all_eq_true_iff_forall_mem.2 (fun v hv => by
      unfold arr at hv
      rw [Array.mem_ofFn] at hv
      obtain ⟨i, rfl⟩ := hv
      exact h1 i i.isLt)) h
theorem results_blk {fn : Func} {p : Tmp} {ty : TypeId} (h : fn.results = #[.cell p ty]) (tmps : Array Value) (w : World) (g : Nat) (E : TypeId) (n : Nat) (f : Nat → Value) (hB : Blk w g E n f) (d : TypeDesc)
    (hp : tmps.getD p undef = .pointer (some ⟨g, 0, none⟩))
    (hu : P.underlying ty = some d) (hd : (match d with | .struct _ | .array _ _ => true | _ => false) = true) (hi : (P.info? ty).map (·.size) = some n) :
    (results fn tmps).run P w = .ok (.agg (arr n f)) w :=
  results_cell_row h tmps w g E (arr n f) (0, 0) d hp hB hu hd (by rw [arr_size]; exact hi)
end
end Go.Proofs.YtlbclfponongbaaGreatDoor.Dg
namespace Go.Proofs.YtlbclfponongbaaGreatDoor.Dg
open Go.RowKit
attribute [local go_sem] U_xor U_and U_or U_add U_addm U_shl U_shr U_shlm U_shrm U_w8 U_shl24 U_shl16 U_shl8
theorem ty58 : Tryz.prog.underlying 117 = some (.array 64 91) := by kernel_rfl
theorem sz58 : (Tryz.prog.info? 117).map (·.size) = some 64 := by kernel_rfl
set_option maxHeartbeats 4000000 in
set_option maxRecDepth 100000 in
theorem words_any (hb off : Nat) (f : Nat → UInt8) (w : World) 
    (hc : ∀ i, i < 64 → w.cell? ⟨hb, off + i, none⟩ = some (.int .u8 ((f i).toNat : Int))) (hlt : hb < w.heap.size) :
    Calls Tryz.prog 87 #[.pointer (some ⟨hb, off, none⟩)] w fun e w' => e = .returned (.agg (arr 64 (fun j => .int .u32 (U (sch (wd f) j))))) ∧ Below w.heap.size w w' := by
  go_enter Tryz.func87, Tryz.ntmps87
  go_wp2
  go_loopw [6] (fun i wr => ∃ (k : Nat) (g : Nat → W32), k ≤ 16 ∧ i = .int .i64 k ∧ Blk wr (w.heap.size + 1) 117 64 (fun j => .int .u32 (U (g j))) ∧ (∀ j, j < k → g j = wd f j) ∧
     Blk wr w.heap.size 117 64 (fun _ => .int .u32 0) ∧ Below w.heap.size w wr) (fun i _ => 16 - (intOf i).toNat)
  case atStart => exact ⟨0, fun _ => 0#32, by omega, rfl, Blk.newAt _ (heap_alloc2_new w _ _) (by rfl), fun j hj => absurd hj (by omega), Blk.newAt _ (heap_alloc2_old w _ _) (by rfl), ((Below.refl _ _).alloc (Nat.le_refl _) _).alloc (by simp) _⟩
  case round =>
    obtain ⟨k, g, hk, rfl, hB, hg, hR, hbl⟩ := hrel
    by_cases hlt : k < 16
    · have c0 : wr.cell? ⟨hb, off + 4 * k, none⟩ = some (.int .u8 ((f (4*k)).toNat : Int)) := by rw [hbl.cell (by assumption)]; exact hc _ (by omega)
      have c1 : wr.cell? ⟨hb, off + (4 * k + 1), none⟩ = some (.int .u8 ((f (4*k+1)).toNat : Int)) := by rw [hbl.cell (by assumption)]; exact hc _ (by omega)
      have c2 : wr.cell? ⟨hb, off + (4 * k + 2), none⟩ = some (.int .u8 ((f (4*k+2)).toNat : Int)) := by rw [hbl.cell (by assumption)]; exact hc _ (by omega)
      have c3 : wr.cell? ⟨hb, off + (4 * k + 3), none⟩ = some (.int .u8 ((f (4*k+3)).toNat : Int)) := by rw [hbl.cell (by assumption)]; exact hc _ (by omega)
      have f0 := hB.frozen k
      have cB := hB.cell k (by omega)
      clear hc
      go_wp2
      have a0 : IntKind.i64.wrap (4 * (k : Int)) = 4 * k := IntWalk.i64_in _ (by omega)
      have a1 : IntKind.i64.wrap (4 * (k : Int) + 1) = 4 * k + 1 := IntWalk.i64_in _ (by omega)
      have a2 : IntKind.i64.wrap (4 * (k : Int) + 2) = 4 * k + 2 := IntWalk.i64_in _ (by omega)
      have a3 : IntKind.i64.wrap (4 * (k : Int) + 3) = 4 * k + 3 := IntWalk.i64_in _ (by omega)
      have z0 : (0 : Int) ≤ 4 * (k : Int) := by omega
      have z1 : (0 : Int) ≤ 4 * (k : Int) + 1 := by omega
      have z2 : (0 : Int) ≤ 4 * (k : Int) + 2 := by omega
      have z3 : (0 : Int) ≤ 4 * (k : Int) + 3 := by omega
      have y0 : 4 * (k : Int) < 64 := by omega
      have y1 : 4 * (k : Int) + 1 < 64 := by omega
      have y2 : 4 * (k : Int) + 2 < 64 := by omega
      have y3 : 4 * (k : Int) + 3 < 64 := by omega
      have zk : (0 : Int) ≤ (k : Int) := by omega
      have yk : (k : Int) < 64 := by omega
      have t0 : (4 * (k : Int)).toNat = 4 * k := by omega
      have t1 : (4 * (k : Int) + 1).toNat = 4 * k + 1 := by omega
      have t2 : (4 * (k : Int) + 2).toNat = 4 * k + 2 := by omega
      have t3 : (4 * (k : Int) + 3).toNat = 4 * k + 3 := by omega
      go_still_tail 39, (by kernel_rfl)
      clear a0 a1 a2 a3 t0 t1 t2 t3 c0 c1 c2 c3 cB f0
      change wpList _ _ _ _ _ wr.drew
      have hB2 := hB.drew
      have hR2 := hR.drew
      have hbl2 := hbl.drew
      generalize wr.drew = w2 at hB2 hR2 hbl2 ⊢
      have f2 := hB2.frozen k
      have c2 := hB2.cell k (by omega)
      go_wp2
      go_roundw
      case rel =>
        refine ⟨k + 1, fun j => if j = k then wd f k else g j, by omega, by go_num, ?_, ?_, ?_, ?_⟩
        · refine (hB2.set k _).congr fun i hi => ?_
          by_cases e : i = k
          · subst e; simp [wd]
          · simp [e]
        · intro j hj
          by_cases e : j = k
          · subst e; simp
          · simp [e]; exact hg j (by omega)
        · exact hR2.setOther _ _ (by simp)
        · exact hbl2.setCell (by simp) _
      case measure => simp [intOf]; omega
    · have H : Hid (∀ j, j < 16 → g j = tab (wd f) 0 j) := fun j hj => hg j (by omega)
      clear hg hc
      go_wp2
      go_loopw [5] (fun i wr => ∃ (k : Nat) (g : Nat → W32), 16 ≤ k ∧ k ≤ 64 ∧ i = .int .i64 k ∧ Blk wr (w.heap.size + 1) 117 64 (fun j => .int .u32 (U (g j))) ∧ (∀ j, j < k → g j = tab (wd f) (k - 16) j) ∧
          Blk wr w.heap.size 117 64 (fun _ => .int .u32 0) ∧ Below w.heap.size w wr) (fun i _ => 64 - (intOf i).toNat)
      case atStart => exact ⟨16, g, by omega, by omega, rfl, hB, H.out, hR, hbl⟩
      case round =>
        clear hB H hR hbl g
        obtain ⟨k, g, hk16, hk, rfl, hB, hg, hR, hbl⟩ := hrel
        by_cases hlt : k < 64
        · have hB2 := hB.drew
          have hR2 := hR.drew
          have hbl2 := hbl.drew
          have c0 := hB.cell (k - 2) (by omega)
          have c1 := hB.cell (k - 7) (by omega)
          have c2 := hB.cell (k - 15) (by omega)
          have c3 := hB.cell (k - 16) (by omega)
          have a0 : IntKind.i64.wrap ((k : Int) - 2) = k - 2 := IntWalk.i64_in _ (by omega)
          have a1 : IntKind.i64.wrap ((k : Int) - 7) = k - 7 := IntWalk.i64_in _ (by omega)
          have a2 : IntKind.i64.wrap ((k : Int) - 15) = k - 15 := IntWalk.i64_in _ (by omega)
          have a3 : IntKind.i64.wrap ((k : Int) - 16) = k - 16 := IntWalk.i64_in _ (by omega)
          have z0 : (0 : Int) ≤ (k : Int) - 2 := by omega
          have z1 : (0 : Int) ≤ (k : Int) - 7 := by omega
          have z2 : (0 : Int) ≤ (k : Int) - 15 := by omega
          have z3 : (0 : Int) ≤ (k : Int) - 16 := by omega
          have z4 : (0 : Int) ≤ (k : Int) := by omega
          have x0 : (2 : Int) ≤ (k : Int) := by omega
          have x1 : (7 : Int) ≤ (k : Int) := by omega
          have x2 : (15 : Int) ≤ (k : Int) := by omega
          have x3 : (16 : Int) ≤ (k : Int) := by omega
          have y0 : (k : Int) - 2 < 64 := by omega
          have y1 : (k : Int) - 7 < 64 := by omega
          have y2 : (k : Int) - 15 < 64 := by omega
          have y3 : (k : Int) - 16 < 64 := by omega
          have y4 : (k : Int) < 64 := by omega
          have t0 : ((k : Int) - 2).toNat = k - 2 := by omega
          have t1 : ((k : Int) - 7).toNat = k - 7 := by omega
          have t2 : ((k : Int) - 15).toNat = k - 15 := by omega
          have t3 : ((k : Int) - 16).toNat = k - 16 := by omega
          have G : Hid (∀ j, j < k → g j = tab (wd f) (k - 16) j) := hg
          clear hg
          go_wp2
          go_still_tail 23, (by kernel_rfl)
          still_call ((sS1_any _ _).mono fun e w' h => ⟨h.1, h.2.symm⟩)
          repeat still_step
          still_call ((sS0_any _ _).mono fun e w' h => ⟨h.1, h.2.symm⟩)
          repeat still_step
          try refine wpStill_nil ?_
          clear a0 a1 a2 a3 t0 t1 t2 t3 c0 c1 c2 c3
          change wpList _ _ _ _ _ wr.drew
          generalize wr.drew = w2 at hB2 hR2 hbl2 ⊢
          have f2 := hB2.frozen k
          have c2 := hB2.cell k (by omega)
          go_wp2
          go_roundw
          case rel =>
            refine ⟨k + 1, fun j => if j = k then sS1 (g (k - 2)) + g (k - 7) + sS0 (g (k - 15)) + g (k - 16) else g j, by omega, by omega, by go_num, ?_, ?_, ?_, ?_⟩
            · refine (hB2.set k _).congr fun i hi => ?_
              by_cases e : i = k
              · subst e; simp
              · simp [e]
            · exact tab_step _ _ _ hk16 G.out
            · exact hR2.setOther _ _ (by simp)
            · exact hbl2.setCell (by simp) _
          case measure => simp [intOf]; omega
        · have e : Hid (k = 64) := by show k = 64; omega
          have G : Hid (∀ j, j < k → g j = tab (wd f) (k - 16) j) := hg
          clear hg
          go_upto_region 11 with fail
          apply wp_region_lit
          refine wpList_load_blk rfl 117 (.tmp 3) rfl (w.heap.size + 1) rfl 117 64 (fun j => .int .u32 (U (g j))) hB _ ty58 rfl sz58 ?_
          refine wpList_store_blk rfl 117 (.tmp 2) (.tmp 76) rfl w.heap.size 64 (fun j => .int .u32 (U (g j))) (fun _ => .int .u32 0) rfl rfl 117 hR sz58 (fun _ _ => rfl) ?_
          have hR2 := hR.setRow (fun j => .int .u32 (U (g j)))
          have hb2 := below_setRow hbl (Nat.le_refl _) (arr 64 (fun j => .int .u32 (U (g j))))
          generalize wr.setRow w.heap.size (arr 64 (fun j => .int .u32 (U (g j)))) = w3 at hR2 hb2 ⊢
          go_wp2
          refine bodyPost_ret (v := .agg (arr 64 (fun j => .int .u32 (U (g j))))) (results_blk rfl _ _ w.heap.size 117 64 _ hR2 _ rfl ty58 rfl sz58) rfl ⟨?_, hb2⟩
          have hk64 : k = 64 := e.out
          subst hk64
          exact congrArg (fun a => Ending.returned (.agg a)) (arr_congr fun i hi => by rw [G.out i hi]; rfl)
end Go.Proofs.YtlbclfponongbaaGreatDoor.Dg
namespace Go.Proofs.YtlbclfponongbaaGreatDoor.Dg
open Go.RowKit
def wv (f : Nat → W32) (i : Nat) : Value := .int .u32 (U (f i))
def bv (f : Nat → UInt8) (i : Nat) : Value := .int .u8 ((f i).toNat : Int)
/- the hash's 73 cells -/
def hv (st : Nat → W32) (blk : Nat → UInt8) (n : Nat) (i : Nat) : Value :=
  if i < 8 then wv st i else if i < 72 then bv blk (i - 8) else .int .u64 (n : Int)

theorem Blk.setCells {b E n : Nat} : ∀ (vs : List Value) (o : Nat) (w : World) (f : Nat → Value), Blk w b E n f → 
    Blk (w.setCells b o vs) b E n (fun i => if o ≤ i ∧ i < o + vs.length then vs.getD (i - o) undef else f i)
  | [], o, w, f, h => by
    refine Blk.congr (f := f) h fun i hi => ?_
    rw [if_neg (fun e => by simp at e; omega)]
  | v :: r, o, w, f, h => by
    refine (Blk.setCells r (o + 1) _ _ (h.set o v)).congr fun i hi => ?_
    by_cases e : i = o
    · subst e
      rw [if_neg (by omega), if_pos rfl, if_pos (by simp)]; simp
    · by_cases e2 : o + 1 ≤ i ∧ i < o + 1 + r.length
      · rw [if_pos e2, if_pos (by simp; omega)]
        obtain ⟨m, rfl⟩ : ∃ m, i = o + 1 + m := ⟨i - (o + 1), by omega⟩
        rw [show o + 1 + m - (o + 1) = m by omega, show o + 1 + m - o = m + 1 by omega]
        simp
      · rw [if_neg e2, if_neg e, if_neg (by simp; omega)]
theorem setCells_grown (b : Nat) : ∀ (vs : List Value) (o : Nat) (w : World), w.grownBy (w.setCells b o vs) (some b)
  | [], o, w => ⟨rfl, rfl, rfl, Nat.le_refl _, fun _ _ _ => rfl⟩
  | v :: r, o, w => by
    have h := setCells_grown b r (o + 1) (w.setCell ⟨b, o, none⟩ v)
    exact ⟨h.os, h.tape, h.output, by have := h.size; rw [World.size_setCell] at this; exact this, fun k hk hne => by
      rw [show w.setCells b o (v :: r) = (w.setCell ⟨b, o, none⟩ v).setCells b (o + 1) r from rfl, h.block k (by simpa using hk) hne]
      exact heap_setCell_other w _ k v (fun e => hne (by rw [e]))⟩
theorem grown_refl (w : World) (r : Option Nat) : w.grownBy w r := ⟨rfl, rfl, rfl, Nat.le_refl _, fun _ _ _ => rfl⟩
theorem grown_trans {a b c : World} {r : Option Nat} (h : a.grownBy b r) (k : b.grownBy c r) : a.grownBy c r :=
  ⟨k.os.trans h.os, k.tape.trans h.tape, k.output.trans h.output, Nat.le_trans h.size k.size, fun i hi hne => (k.block i (Nat.lt_of_lt_of_le hi h.size) hne).trans (h.block i hi hne)⟩
theorem grown_below {a b : World} (h : Below a.heap.size a b) (r : Option Nat) : a.grownBy b r :=
  ⟨h.os, h.tape, h.output, h.size, fun i hi _ => h.block i hi⟩
theorem grown_drewN (w : World) (n : Nat) (r : Option Nat) : w.grownBy (w.drewN n) r := ⟨rfl, rfl, rfl, Nat.le_refl _, fun _ _ _ => rfl⟩
theorem grown_setCell (w : World) (b o : Nat) (v : Value) : w.grownBy (w.setCell ⟨b, o, none⟩ v) (some b) := setCells_grown b [v] o w
theorem grown_none {a b : World} (h : a.grownBy b none) (r : Option Nat) : a.grownBy b r := ⟨h.os, h.tape, h.output, h.size, fun i hi _ => h.block i hi (by simp)⟩
theorem below_grown {B hb : Nat} {w0 w w' : World} (h : Below B w0 w) (hg : w.grownBy w' (some hb)) (hB : B ≤ w.heap.size) (hhb : B ≤ hb) : Below B w0 w' :=
  h.grown hg hB (fun k hk => by cases hk; exact hhb)
theorem Blk.grown {w w' : World} {b hb E n f} (h : Blk w b E n f) (hg : w.grownBy w' (some hb)) (hne : b ≠ hb) : Blk w' b E n f := by
  have hl := h.lt
  unfold Blk at *
  rw [hg.block b hl (by simp [hne])]; exact h
theorem cell_grown {w w' : World} {hb : Nat} {a : Addr} {v : Value} (hg : w.grownBy w' (some hb)) (h : w.cell? a = some v) (hne : a.block ≠ hb) : w'.cell? a = some v :=
  hg.cell h (by simp [hne])
section
variable {P : Program}
/- copy(dst, s) of a string into a block's cells -/
def strCells (s : ByteArray) (m : Nat) : List Value := List.take m (List.map (fun b => Value.int .u8 b.toNat) s.data.toList)
theorem strCells_length (s : ByteArray) (m : Nat) (hm : m ≤ s.size) : (strCells s m).length = m := by
  have hm' : m ≤ s.data.size := hm
  simp [strCells]; omega
theorem strCells_get (s : ByteArray) (m j : Nat) (hm : m ≤ s.size) (hj : j < m) : (strCells s m).getD j undef = .int .u8 ((s.data.toList.getD j 0).toNat : Int) := by
  have hm' : m ≤ s.data.size := hm
  have hl := strCells_length s m hm
  rw [List.getD_eq_getElem?_getD, List.getElem?_eq_getElem (by omega)]
  have hs : j < s.data.toList.length := by simp; omega
  rw [List.getD_eq_getElem?_getD, List.getElem?_eq_getElem hs]
  simp [strCells]
theorem strCells_one (s : ByteArray) (m : Nat) : ∀ v ∈ strCells s m, v.oneCell' = true := by
  intro v hv
  have hv := List.mem_of_mem_take hv
  rw [List.mem_map] at hv
  obtain ⟨x, _, rfl⟩ := hv
  rfl
theorem run_copy_str (w : World) (dT sT ty elem : TypeId) (b o dLen dCap : Nat) (s : ByteArray)
    (hu : P.underlying dT = some (.slice elem)) (hs : (P.info? elem).map (·.size) = some 1) (m : Nat) (hm : Nat.min s.size dLen = m)
    (ht : w.there b o m) :
    (Builtin.copy_ #[dT, sT] ty #[.slice (some ⟨b, o, none⟩) dLen dCap, .string s]).run P w = .ok (goInt m) (w.setCells b o (strCells s m)) := by
  have hms : m ≤ s.size := by rw [← hm]; exact Nat.min_le_left _ _
  have hl := strCells_length s m hms
  have hst := run_storeCells_cells (P := P) b o (strCells s m) 0 w (fun j hj => by rw [hl] at hj; simpa using (ht j hj).1) (fun j hj => by rw [hl] at hj; simpa using (ht j hj).2) (strCells_one s m)
  simp only [Nat.add_zero, strCells] at hst
  cases hq : P.info? elem with
  | none => simp [hq] at hs
  | some i =>
    simp only [Builtin.copy_, List.getElem?_toArray, List.getElem?_cons_zero, List.getElem?_cons_succ, Sem.run_bind, run_underlying hu, Builtin.lenOf, Result.andThen_ok, Sem.run_pure, Builtin.firstCells, sizeOf, typeInfo, hq, hm]
    simp [hq, hst, strCells]
theorem wpList_copy_str {w : World} {ops : Array Oper} {rest : List Oper} {o : Oper} {a : Act} {Q : Exit → Act → World → Prop} (hgd : o.guard = none) (d s : Operand) (dT sT : TypeId)
    (ho : o.op = .call { callee := .builtin .copy, args := #[d, s], argTypes := #[dT, sT] }) (elem : TypeId) (hu : P.underlying dT = some (.slice elem)) (hsz : (P.info? elem).map (·.size) = some 1)
    (b off dLen dCap : Nat) (str : ByteArray) (hd : a.eval d = .slice (some ⟨b, off, none⟩) dLen dCap) (hs : a.eval s = .string str)
    (m : Nat) (hm : Nat.min str.size dLen = m) (ht : w.there b off m)
    (h : wpList P ops Q rest (a.put o.dst (goInt m)) (w.setCells b off (strCells str m))) : wpList P ops Q (o :: rest) a w := by
  refine wpList_plain hgd fun K hK => ?_
  have hrun := run_copy_str (P := P) w dT sT o.type elem b off dLen dCap str hu hsz m hm ht
  unfold Oper.wp
  simp [execOp, ho, resolve, invoke, builtin, hd, hs, hrun, Result.andThen]
  exact hK _ _ h
/- x[i] of an array by value -/
theorem run_index_arr (w : World) (ty elem : TypeId) (n : Nat) (f : Nat → Value) (k : IntKind) (i : Nat) (hu : P.underlying ty = some (.array n elem)) (hs : (P.info? elem).map (·.size) = some 1)
    (ha : P.underlying elem = some (.int .u32)) (hi : i < n) :
    (Instr.index ty (.agg (arr n f)) (.int k (i : Int))).run P w = .ok (f i) w := by
  cases hq : P.info? elem with
  | none => simp [hq] at hs
  | some d =>
    have hd : d.size = 1 := by simpa [hq] using hs
    have hagg : (isAgg elem).run P w = .ok false w := by
      unfold isAgg
      rw [Sem.run_bind, run_underlying ha w]; rfl
    have hp : (part elem (arr n f) i).run P w = .ok (f i) w := by
      unfold part
      rw [Sem.run_bind, hagg]
      simp [arr_get n f i hi]
    have hai : (asIntOf (.int k (i : Int))).run P w = .ok (k, (i : Int)) w := rfl
    simp [Instr.index, run_underlying hu, sizeOf, typeInfo, hq, hd, hi, hai, hp]
theorem oneCell_arr {n : Nat} {f : Nat → Value} (h : ∀ i, i < n → (f i).oneCell' = true) : (arr n f).all (·.oneCell') = true :=
    Array.all_eq_true_iff_forall_mem.2 (fun v hv => by
      unfold arr at hv
      rw [Array.mem_ofFn] at hv
      obtain ⟨i, rfl⟩ := hv
      exact h i i.isLt)
theorem wpStill_load_mid {ops : Array Oper} {w : World} {Q : Act → Prop} {a : Act} {o : Oper} {rest : List Oper} (hgd : o.guard = none) (ty : TypeId) (x : Operand) (ho : o.op = .load ty x)
    (b off : Nat) (hx : a.eval x = .pointer (some ⟨b, off, none⟩)) (cs : List Value) (d : TypeDesc) (hc : w.rangeAt b off cs)
    (hu : P.underlying ty = some d) (hd : d.isRow = true) (hi : (P.info? ty).map (·.size) = some cs.length)
    (h : wpStill P ops w Q rest (a.put o.dst (.agg cs.toArray))) : wpStill P ops w Q (o :: rest) a := by
  refine wpStill_step fun K hK => ?_
  have hw : Region.wanted o (yielded ops a.tmps) = true := by unfold Region.wanted; rw [hgd]
  rw [if_pos hw]
  unfold Oper.still execOp
  simp only [ho, hx, Instr.loadAt, Instr.sureAddr, Sem.run_bind, Sem.run_pure, Result.andThen_ok, run_loadVar_mid w b off ty cs d hc hu hd hi]
  exact ⟨rfl, hK _ h⟩
theorem Blk.head {w : World} {b E n : Nat} {f : Nat → Value} (h : Blk w b E n f) (m : Nat) (g : Nat → Value) (hm : m ≤ n) (hg : ∀ i, i < m → f i = g i) : w.rangeAt b 0 (arr m g).toList := by
  have := h.range 0 m (by omega)
  rw [arr_congr (g := g) (fun i hi => by rw [Nat.zero_add]; exact hg i hi)] at this
  exact this
/- clear(s) of a slice of bytes -/
theorem wpList_clear {w : World} {ops : Array Oper} {rest : List Oper} {o : Oper} {a : Act} {Q : Exit → Act → World → Prop} (hgd : o.guard = none) (hdst : o.dst = none) (d : Operand) (dT : TypeId)
    (ho : o.op = .call { callee := .builtin .clear, args := #[d], argTypes := #[dT] }) (elem : TypeId) (z : Value) (hu : P.underlying dT = some (.slice elem)) (hz : ∀ w, (zeroValue elem).run P w = .ok z w) (hzc : z.cells = #[z]) (hz1 : z.oneCell' = true)
    (b off n c : Nat) (hn : 0 < n) (hd : a.eval d = .slice (some ⟨b, off, none⟩) n c) (ht : w.there b off n)
    (h : wpList P ops Q rest a (w.setCells b off (List.replicate n z))) : wpList P ops Q (o :: rest) a w := by
  refine wpList_plain hgd fun K hK => ?_
  have hrun := Lib.run_clear_slice (P := P) w dT elem o.type z hu hz hzc hz1 b off n c hn (fun j hj => (ht j hj).1) (fun j hj => (ht j hj).2)
  unfold Oper.wp
  simp [execOp, ho, resolve, invoke, builtin, hd, hrun, Result.andThen, hdst]
  have e : a.put o.dst (.tuple #[]) = a := by rw [hdst]; rfl
  exact hK _ _ (by rw [e]; exact h)
end
end Go.Proofs.YtlbclfponongbaaGreatDoor.Dg
namespace Go.Proofs.YtlbclfponongbaaGreatDoor.Dg
open Go.RowKit
attribute [local go_sem] U_xor U_and U_or U_add U_addm U_not
theorem ty31 : Tryz.prog.underlying 92 = some (.array 8 91) := by kernel_rfl
theorem sz31 : (Tryz.prog.info? 92).map (·.size) = some 8 := by kernel_rfl
set_option maxHeartbeats 2000000 in
set_option maxRecDepth 100000 in
theorem turned_any (st : Nat → W32) (hb off : Nat) (f : Nat → UInt8) (w : World)
    (hc : ∀ i, i < 64 → w.cell? ⟨hb, off + i, none⟩ = some (.int .u8 ((f i).toNat : Int))) (hlt : hb < w.heap.size)
    (hk : ∀ i, i < 64 → w.cell? ⟨1, i, none⟩ = some (wv kk i)) :
    Calls Tryz.prog 65 #[.agg (arr 8 (wv st)), .pointer (some ⟨hb, off, none⟩)] w fun e w' => e = .returned (.agg (arr 8 (wv (cmpr st f)))) ∧ Below w.heap.size w w' := by
  have h0 : 1 < w.heap.size := block_lt_of_cell (hk 0 (by omega))
  go_enter Tryz.func65, Tryz.ntmps65
  go_wp2_with fail
  have S0 : ∀ A B, Blk ((w.alloc (.cells (arr 8 (wv st)) A)).alloc B) w.heap.size A 8 (wv st) := fun A B => Blk.newAt _ (heap_alloc2_old w _ _) rfl
  have L0 : ∀ A B, Below w.heap.size w ((w.alloc A).alloc B) := fun A B => ((Below.refl _ _).alloc (Nat.le_refl _) _).alloc (by simp) _
  have Z0 : ∀ A B, ((w.alloc A).alloc B).heap.size = w.heap.size + 2 := fun A B => by show ((w.heap.push A).push B).size = _; simp
  refine (words_any hb off f _ (fun i hi => by rw [(L0 _ _).cell hlt]; exact hc i hi) (by simp; omega)).mono ?_
  rintro e w1 ⟨rfl, hb1⟩
  have S1 := (S0 _ _).below hb1 (by simp <;> omega)
  have R1 : Blk w1 (w.heap.size + 1) 92 8 (fun _ => .int .u32 0) := Blk.below (Blk.newAt _ (heap_alloc2_new w _ _) rfl) hb1 (by simp <;> omega)
  have L1 := (L0 _ _).trans (hb1.mono (by simp; omega))
  have Z1 : w.heap.size + 2 ≤ w1.heap.size := by have := hb1.size; simpa using this
  clear hb1 S0 L0 Z0
  have hk1 : ∀ i, i < 64 → w1.cell? ⟨1, i, none⟩ = some (wv kk i) := fun i hi => by rw [L1.cell h0]; exact hk i hi
  clear hc hk
  go_upto_region 2 with (refine wpList_store_blk rfl 117 (.tmp 5) (.tmp 18) rfl w1.heap.size 64 (fun j => .int .u32 (U (sch (wd f) j))) (fun _ => .int .u32 0) rfl rfl 117 (Blk.newAt _ (heap_alloc_new _ _) rfl) sz58 (fun _ _ => rfl) ?_)
  rw [World.setRow_alloc_new]
  have S2 := S1.alloc (.cells (arr 64 fun j => .int .u32 (U (sch (wd f) j))) 117)
  have R2 := R1.alloc (.cells (arr 64 fun j => .int .u32 (U (sch (wd f) j))) 117)
  have L2 := L1.alloc (by omega) (.cells (arr 64 fun j => .int .u32 (U (sch (wd f) j))) 117)
  have W2 : Blk (w1.alloc (.cells (arr 64 fun j => .int .u32 (U (sch (wd f) j))) 117)) w1.heap.size 117 64 (wv (sch (wd f))) := Blk.newAt _ (heap_alloc_new _ _) rfl
  have hk2 : ∀ i, i < 64 → (w1.alloc (.cells (arr 64 fun j => .int .u32 (U (sch (wd f) j))) 117)).cell? ⟨1, i, none⟩ = some (wv kk i) := fun i hi => by
    rw [L2.cell h0, ← L1.cell h0]; exact hk1 i hi
  clear hk1 S1 R1 L1
  generalize (w1.alloc (.cells (arr 64 fun j => .int .u32 (U (sch (wd f) j))) 117)) = w2 at S2 R2 L2 W2 hk2 ⊢
  have c0 : w2.cell? ⟨w.heap.size, 0, none⟩ = some (.int .u32 (U (st 0))) := S2.cell 0 (by omega)
  have c1 : w2.cell? ⟨w.heap.size, 1, none⟩ = some (.int .u32 (U (st 1))) := S2.cell 1 (by omega)
  have c2 : w2.cell? ⟨w.heap.size, 2, none⟩ = some (.int .u32 (U (st 2))) := S2.cell 2 (by omega)
  have c3 : w2.cell? ⟨w.heap.size, 3, none⟩ = some (.int .u32 (U (st 3))) := S2.cell 3 (by omega)
  have c4 : w2.cell? ⟨w.heap.size, 4, none⟩ = some (.int .u32 (U (st 4))) := S2.cell 4 (by omega)
  have c5 : w2.cell? ⟨w.heap.size, 5, none⟩ = some (.int .u32 (U (st 5))) := S2.cell 5 (by omega)
  have c6 : w2.cell? ⟨w.heap.size, 6, none⟩ = some (.int .u32 (U (st 6))) := S2.cell 6 (by omega)
  have c7 : w2.cell? ⟨w.heap.size, 7, none⟩ = some (.int .u32 (U (st 7))) := S2.cell 7 (by omega)
  go_quiet (fail)
  clear c0 c1 c2 c3 c4 c5 c6 c7
  go_wp2
  go_loopw [6, 7, 8, 9, 10, 11, 12, 13, 35] (fun va vb vc vd ve vf vg vh i wr => ∃ (k : Nat) (s : St), k ≤ 64 ∧ i = .int .i64 k ∧ s = rnds (sch (wd f)) (stOf st) k ∧
      va = .int .u32 (U s.a) ∧ vb = .int .u32 (U s.b) ∧ vc = .int .u32 (U s.c) ∧ vd = .int .u32 (U s.d) ∧ ve = .int .u32 (U s.e) ∧ vf = .int .u32 (U s.f) ∧ vg = .int .u32 (U s.g) ∧ vh = .int .u32 (U s.h) ∧
      Blk wr w.heap.size 92 8 (wv st) ∧ Blk wr (w.heap.size + 1) 92 8 (fun _ => .int .u32 0) ∧ Blk wr w1.heap.size 117 64 (wv (sch (wd f))) ∧ Below w.heap.size w wr ∧ (∀ i, i < 64 → wr.cell? ⟨1, i, none⟩ = some (wv kk i)))
    (fun _ _ _ _ _ _ _ _ i _ => 64 - (intOf i).toNat)
  case atStart => exact ⟨0, stOf st, by omega, rfl, rfl, rfl, rfl, rfl, rfl, rfl, rfl, rfl, rfl, S2.drewN _, R2.drewN _, W2.drewN _, below_drewN L2 _, hk2⟩
  case round =>
    clear S2 R2 L2 W2 hk2
    obtain ⟨k, s, hkk, rfl, hs, rfl, rfl, rfl, rfl, rfl, rfl, rfl, rfl, S2, R2, W2, L2, hk2⟩ := hrel
    have Hs := Lib.hid hs
    clear hs
    by_cases hlt : k < 64
    · have ck : wr.cell? ⟨1, k, none⟩ = some (.int .u32 (U (kk k))) := hk2 k hlt
      have cw : wr.cell? ⟨w1.heap.size, k, none⟩ = some (.int .u32 (U (sch (wd f) k))) := W2.cell k hlt
      have zk : (0 : Int) ≤ (k : Int) := by omega
      have yk : (k : Int) < 64 := by omega
      have Hk := Lib.hid hk2
      clear hk2
      go_wp2
      go_quiet ((go_at_call 88; exact Calls.quiet_of_same ((bS1_any _ _).mono fun e w' h => ⟨h.1, h.2.symm⟩)))
      go_wp2_with (go_at_call 89; refine (bS0_any _ _).mono ?_; rintro e w' ⟨rfl, rfl⟩)
      go_roundw
      case rel =>
        refine ⟨k + 1, rnd (sch (wd f)) k s, by omega, by go_num, ?_, rfl, rfl, rfl, rfl, rfl, rfl, rfl, rfl, S2.drewN _, R2.drewN _, W2.drewN _, below_drewN L2 _, Hk.out⟩
        have := Hs.out
        rw [this]; rfl
      case measure => simp [intOf]; omega
    · have e : Hid (k = 64) := by show k = 64; omega
      have c0 : wr.cell? ⟨w.heap.size, 0, none⟩ = some (.int .u32 (U (st 0))) := S2.cell 0 (by omega)
      have c1 : wr.cell? ⟨w.heap.size, 1, none⟩ = some (.int .u32 (U (st 1))) := S2.cell 1 (by omega)
      have c2 : wr.cell? ⟨w.heap.size, 2, none⟩ = some (.int .u32 (U (st 2))) := S2.cell 2 (by omega)
      have c3 : wr.cell? ⟨w.heap.size, 3, none⟩ = some (.int .u32 (U (st 3))) := S2.cell 3 (by omega)
      have c4 : wr.cell? ⟨w.heap.size, 4, none⟩ = some (.int .u32 (U (st 4))) := S2.cell 4 (by omega)
      have c5 : wr.cell? ⟨w.heap.size, 5, none⟩ = some (.int .u32 (U (st 5))) := S2.cell 5 (by omega)
      have c6 : wr.cell? ⟨w.heap.size, 6, none⟩ = some (.int .u32 (U (st 6))) := S2.cell 6 (by omega)
      have c7 : wr.cell? ⟨w.heap.size, 7, none⟩ = some (.int .u32 (U (st 7))) := S2.cell 7 (by omega)
      have Hk := Lib.hid hk2
      clear hk2
      go_wp2_with (refine wpList_store_blk rfl 92 (.tmp 4) (.tmp 118) rfl (w.heap.size + 1) 8 (fun i => .int .u32 (U (st i + ofSt s i))) (fun _ => .int .u32 0) rfl rfl 92 R2 sz31 (fun _ _ => rfl) ?_)
      have R3 := R2.setRow (fun i => .int .u32 (U (st i + ofSt s i)))
      have L3 := below_setRow L2 (Nat.le_succ _) (arr 8 (fun i => .int .u32 (U (st i + ofSt s i))))
      generalize wr.setRow (w.heap.size + 1) (arr 8 (fun i => .int .u32 (U (st i + ofSt s i)))) = w3 at R3 L3 ⊢
      refine bodyPost_ret (v := .agg (arr 8 (fun i => .int .u32 (U (st i + ofSt s i))))) (results_blk rfl _ _ (w.heap.size + 1) 92 8 _ R3 _ rfl ty31 rfl sz31) rfl ⟨?_, L3⟩
      have hk64 : k = 64 := e.out
      subst hk64
      have hs := Hs.out
      subst hs
      exact congrArg (fun a => Ending.returned (.agg a)) (arr_congr fun i hi => rfl)
end Go.Proofs.YtlbclfponongbaaGreatDoor.Dg
namespace Go.Proofs.YtlbclfponongbaaGreatDoor.Dg
/- the first state -/
def ivl : List W32 := [0x6a09e667#32, 0xbb67ae85#32, 0x3c6ef372#32, 0xa54ff53a#32, 0x510e527f#32, 0x9b05688c#32, 0x1f83d9ab#32, 0x5be0cd19#32]
def iv (i : Nat) : W32 := ivl.getD i 0#32
/- the state behind m blocks of a text -/
def stB (d : Nat → UInt8) : Nat → Nat → W32
  | 0 => iv
  | m + 1 => cmpr (stB d m) (fun i => d (64 * m + i))
/- how many blocks a text of n bytes is lengthened to; its bytes then -/
def nbl (n : Nat) : Nat := (n + 8) / 64 + 1
def lenByte (n j : Nat) : UInt8 := UInt8.ofNat (8 * n / 256 ^ (7 - j))
def pad (d : Nat → UInt8) (n i : Nat) : UInt8 :=
  if i < n then d i else if i = n then 0x80 else if i + 8 < 64 * nbl n then 0 else lenByte n (i + 8 - 64 * nbl n)
/- byte i of a state's words -/
def sByte (s : Nat → W32) (i : Nat) : UInt8 := UInt8.ofNat ((s (i / 4) >>> (24 - 8 * (i % 4))).toNat)
def dig (d : Nat → UInt8) (n : Nat) (i : Nat) : UInt8 := sByte (stB (pad d n) (nbl n)) i

theorem sByte_val (s : Nat → W32) (k m : Nat) (hm : m < 4) : U (s k) / 2 ^ (24 - 8 * m) % 256 = ((sByte s (4 * k + m)).toNat : Int) := by
  unfold sByte
  rw [show (4 * k + m) / 4 = k by omega, show (4 * k + m) % 4 = m by omega, U_shr, UInt8.toNat_ofNat']
  unfold U
  rw [Int.natCast_emod]; rfl
theorem sch_congr {d e : Nat → W32} (h : ∀ j, j < 16 → d j = e j) : ∀ n j, j < 16 + n → tab d n j = tab e n j := by
  intro n
  induction n with
  | zero => intro j hj; exact h j (by omega)
  | succ n ih =>
    intro j hj
    unfold tab
    by_cases e1 : j = 16 + n
    · rw [if_pos e1, if_pos e1, ih _ (by omega), ih _ (by omega), ih _ (by omega), ih _ (by omega)]
    · rw [if_neg e1, if_neg e1, ih _ (by omega)]
theorem rnds_congr {u v : Nat → W32} (s : St) : ∀ n, (∀ j, j < n → u j = v j) → rnds u s n = rnds v s n := by
  intro n
  induction n with
  | zero => intro _; rfl
  | succ n ih =>
    intro h
    unfold rnds
    rw [ih (fun j hj => h j (by omega))]
    unfold rnd Tt
    rw [h n (by omega)]
theorem cmpr_congr {s t : Nat → W32} {f g : Nat → UInt8} (hs : ∀ i, i < 8 → s i = t i) (hf : ∀ i, i < 64 → f i = g i) (i : Nat) (hi : i < 8) : cmpr s f i = cmpr t g i := by
  unfold cmpr
  have e1 : stOf s = stOf t := by
    unfold stOf
    rw [hs 0 (by omega), hs 1 (by omega), hs 2 (by omega), hs 3 (by omega), hs 4 (by omega), hs 5 (by omega), hs 6 (by omega), hs 7 (by omega)]
  have e2 : ∀ j, j < 64 → sch (wd f) j = sch (wd g) j := fun j hj => sch_congr (fun j hj => by
    unfold wd; rw [hf _ (by omega), hf _ (by omega), hf _ (by omega), hf _ (by omega)]) 48 j (by omega)
  rw [hs i hi, e1, rnds_congr _ 64 e2]
theorem stB_congr {d e : Nat → UInt8} (m : Nat) (h : ∀ i, i < 64 * m → d i = e i) (i : Nat) (hi : i < 8) : stB d m i = stB e m i := by
  induction m generalizing i with
  | zero => rfl
  | succ m ih =>
    exact cmpr_congr (fun j hj => ih (fun k hk => h k (by omega)) j hj) (fun j hj => h _ (by omega)) i hi
/- what the hash holds when n bytes of d were taken -/
def Inv (d : Nat → UInt8) (st : Nat → W32) (blk : Nat → UInt8) (n : Nat) : Prop :=
  (0 < n → ∀ i, i < 8 → st i = stB d (n / 64) i) ∧ ∀ i, i < n % 64 → blk i = d (64 * (n / 64) + i)
theorem Inv.congr {d e : Nat → UInt8} {st blk n} (h : Inv d st blk n) (hde : ∀ i, i < n → d i = e i) : Inv e st blk n :=
  ⟨fun h0 i hi => (h.1 h0 i hi).trans (stB_congr _ (fun k hk => hde k (by omega)) i hi), fun i hi => (h.2 i hi).trans (hde _ (by omega))⟩
theorem inv_start {d : Nat → UInt8} {st blk n} (h : Inv d st blk n) (i : Nat) (hi : i < 8) : (if n = 0 then iv else st) i = stB d (n / 64) i := by
  by_cases h0 : n = 0
  · subst h0; rfl
  · rw [if_neg h0]; exact h.1 (by omega) i hi
/- m bytes more, the block not yet whole -/
theorem inv_part {d : Nat → UInt8} {st blk n} (h : Inv d st blk n) (m : Nat) (b' : Nat → UInt8) (hm : n % 64 + m < 64) (hb : ∀ i, i < n % 64 + m → b' i = if i < n % 64 then blk i else d (64 * (n / 64) + i)) :
    Inv d (if n = 0 then iv else st) b' (n + m) := by
  have e1 : (n + m) / 64 = n / 64 := by omega
  have e2 : (n + m) % 64 = n % 64 + m := by omega
  refine ⟨fun _ i hi => by rw [e1]; exact inv_start h i hi, fun i hi => ?_⟩
  rw [e2] at hi
  rw [e1, hb i hi]
  by_cases c : i < n % 64
  · rw [if_pos c]; exact h.2 i c
  · rw [if_neg c]
theorem inv_full {d : Nat → UInt8} {st blk n} (h : Inv d st blk n) (m : Nat) (b' : Nat → UInt8) (hm : n % 64 + m = 64) (hb : ∀ i, i < 64 → b' i = if i < n % 64 then blk i else d (64 * (n / 64) + i)) :
    Inv d (cmpr (if n = 0 then iv else st) b') b' (n + m) := by
  have e1 : (n + m) / 64 = n / 64 + 1 := by omega
  have e2 : (n + m) % 64 = 0 := by omega
  refine ⟨fun _ i hi => ?_, fun i hi => by omega⟩
  rw [e1]
  refine cmpr_congr (fun j hj => inv_start h j hj) (fun j hj => ?_) i hi
  rw [hb j hj]
  by_cases c : j < n % 64
  · rw [if_pos c]; exact h.2 j c
  · rw [if_neg c]
theorem pad_lt {d : Nat → UInt8} {n i : Nat} (h : i < n) : pad d n i = d i := by unfold pad; rw [if_pos h]
/- how the text ends -/
def b1Of (blk : Nat → UInt8) (r i : Nat) : UInt8 := if i < r then blk i else if i = r then 0x80 else 0
def bLen (b : Nat → UInt8) (n k i : Nat) : UInt8 := if 56 ≤ i ∧ i < 56 + k then lenByte n (i - 56) else b i
theorem bLen_zero (b : Nat → UInt8) (n : Nat) : bLen b n 0 = b := funext fun i => by unfold bLen; rw [if_neg (by omega)]
theorem bLen_step (b : Nat → UInt8) (n k i : Nat) : (if i = 56 + k then lenByte n k else bLen b n k i) = bLen b n (k + 1) i := by
  unfold bLen
  by_cases c : i = 56 + k
  · rw [if_pos c, if_pos (by omega), show i - 56 = k by omega]
  · rw [if_neg c]
    by_cases c2 : 56 ≤ i ∧ i < 56 + k
    · rw [if_pos c2, if_pos (by omega)]
    · rw [if_neg c2, if_neg (by omega)]
theorem stB_pad {d : Nat → UInt8} {n : Nat} (i : Nat) (hi : i < 8) : stB (pad d n) (n / 64) i = stB d (n / 64) i :=
  stB_congr _ (fun k hk => pad_lt (by omega)) i hi
theorem fin_short {d : Nat → UInt8} {st blk n} (h : Inv d st blk n) (hr : n % 64 < 56) (i : Nat) (hi : i < 8) :
    cmpr (if n = 0 then iv else st) (bLen (b1Of blk (n % 64)) n 8) i = stB (pad d n) (nbl n) i := by
  have e : nbl n = n / 64 + 1 := by unfold nbl; omega
  rw [e]
  refine cmpr_congr (fun j hj => (inv_start h j hj).trans (stB_pad j hj).symm) (fun j hj => ?_) i hi
  unfold bLen b1Of pad
  rw [e]
  by_cases c : j < n % 64
  · rw [if_neg (by omega), if_pos c, if_pos (by omega), h.2 j c]
  · by_cases c2 : j = n % 64
    · rw [if_neg (by omega), if_neg c, if_pos c2, if_neg (by omega), if_pos (by omega)]
    · by_cases c3 : j < 56
      · rw [if_neg (by omega), if_neg c, if_neg c2, if_neg (by omega), if_neg (by omega), if_pos (by omega)]
      · rw [if_pos (by omega), if_neg (by omega), if_neg (by omega), if_neg (by omega), show 64 * (n / 64) + j + 8 - 64 * (n / 64 + 1) = j - 56 by omega]
theorem fin_long {d : Nat → UInt8} {st blk n} (h : Inv d st blk n) (hr : 56 ≤ n % 64) (i : Nat) (hi : i < 8) :
    cmpr (cmpr (if n = 0 then iv else st) (b1Of blk (n % 64))) (bLen (fun _ => 0) n 8) i = stB (pad d n) (nbl n) i := by
  have e : nbl n = n / 64 + 1 + 1 := by unfold nbl; omega
  rw [e]
  refine cmpr_congr (fun j hj => ?_) (fun j hj => ?_) i hi
  · refine cmpr_congr (fun j hj => (inv_start h j hj).trans (stB_pad j hj).symm) (fun j hj => ?_) j hj
    unfold b1Of pad
    rw [e]
    by_cases c : j < n % 64
    · rw [if_pos c, if_pos (by omega), h.2 j c]
    · by_cases c2 : j = n % 64
      · rw [if_neg c, if_pos c2, if_neg (by omega), if_pos (by omega)]
      · rw [if_neg c, if_neg c2, if_neg (by omega), if_neg (by omega), if_pos (by omega)]
  · unfold bLen pad
    rw [e]
    by_cases c3 : j < 56
    · rw [if_neg (by omega), if_neg (by omega), if_neg (by omega), if_pos (by omega)]
    · rw [if_pos (by omega), if_neg (by omega), if_neg (by omega), if_neg (by omega), show 64 * (n / 64 + 1) + j + 8 - 64 * (n / 64 + 1 + 1) = j - 56 by omega]
theorem lenByte_val (n k : Nat) (hk : k < 8) : (8 * (n : Int)) / 2 ^ (56 - 8 * k) % 256 = ((lenByte n k).toNat : Int) := by
  unfold lenByte
  rw [UInt8.toNat_ofNat', show 256 ^ (7 - k) = 2 ^ (56 - 8 * k) by rw [show 256 = 2 ^ 8 by rfl, ← Nat.pow_mul, show 8 * (7 - k) = 56 - 8 * k by omega]]
  rw [Int.natCast_emod, Int.natCast_ediv, Int.natCast_mul, Int.natCast_pow]; rfl
theorem sByte_congr {s t : Nat → W32} (h : ∀ i, i < 8 → s i = t i) (i : Nat) (hi : i < 32) : sByte s i = sByte t i := by
  unfold sByte; rw [h _ (by omega)]
theorem dig_congr {d e : Nat → UInt8} {n : Nat} (h : ∀ i, i < n → d i = e i) (i : Nat) (hi : i < 32) : dig d n i = dig e n i := by
  unfold dig sByte
  rw [stB_congr (nbl n) (d := pad d n) (e := pad e n) (fun k hk => by
    unfold pad
    by_cases c : k < n
    · rw [if_pos c, if_pos c, h k c]
    · rw [if_neg c, if_neg c]) (i / 4) (by omega)]
end Go.Proofs.YtlbclfponongbaaGreatDoor.Dg
