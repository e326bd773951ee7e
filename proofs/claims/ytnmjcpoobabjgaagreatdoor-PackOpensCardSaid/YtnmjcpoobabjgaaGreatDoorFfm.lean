import Derived.Test.YtnmjcpoobabjgaaGreatDoorPbm
import Derived.Laws.BitsAll
import Derived.WalkSpells
import Derived.WalkLawsBesides
import Derived.Laws.StructEq
import Derived.Laws.Externs
import Derived.Shelf.Strings.Builder1
import Derived.Shelf.LaysM
import Derived.Shelf.Strconv.Clone
import Derived.Shelf.Strings.Search1
import Derived.Shelf.Strings.Search2
import Derived.Shelf.Strings.Search3
import Derived.Test.YtnmjcpoobabjgaaGreatDoorProg
import Derived.Deep.QuietTactic
import Derived.BigQuiet
import Derived.ScopeJumps
import Derived.WalkMore
set_option linter.unusedVariables false
set_option linter.unusedSimpArgs false
/- The float that stands for a whole number, as a function; sums, differences and sizes of such floats are such floats. -/
namespace Go.Proofs.YtnmjcpoobabjgaaGreatDoor
open Ieee Go.Proofs.YtnmjcpoobabjgaaGreatDoor.Mt
def FB (n : Int) : Nat := floatOfInt .f64 n
/- the rung of a size -/
def rung (m : Nat) : Nat := if m = 0 then 0 else (m.log2 + 1022) * 4503599627370496 + m * 2 ^ (52 - m.log2)
theorem nearest_rung (sg : Bool) (m M : Nat) (hb : m < 9007199254740992) : double.nearest sg (m * 2 ^ M) (-(M : Int)) = double.word sg (rung m) := by
  unfold rung
  by_cases h0 : m = 0
  · subst h0
    rw [if_pos rfl, Nat.zero_mul]
    unfold Format.nearest
    rw [if_pos rfl]
  rw [if_neg h0]
  have hm : 0 < m := by omega
  have h2 : 0 < 2 ^ M := Nat.two_pow_pos _
  have hl := (Nat.log2_eq_iff (n := m) (k := m.log2) (by omega)).1 rfl
  have hL : m.log2 ≤ 52 := by
    have : m.log2 < 53 := (Nat.log2_lt (by omega)).2 hb
    omega
  have hlog := log2_scaled m M hm
  generalize m.log2 = L at *
  have e1 : double.fractionBits = 52 := rfl
  have e2 : double.leastPlace = -1074 := by decide
  have e3 : double.binade = 4503599627370496 := by decide
  have e4 : double.infRung = 9218868437227405312 := by decide
  have c2 : m * 2 ^ (52 - L) < 9007199254740992 := by
    have := Nat.mul_lt_mul_of_pos_right hl.2 (Nat.two_pow_pos (52 - L))
    rw [← Nat.pow_add, show L + 1 + (52 - L) = 53 by omega] at this
    exact this
  have c1 : 0 < m * 2 ^ (52 - L) := Nat.mul_pos hm (Nat.two_pow_pos _)
  unfold Format.nearest
  rw [if_neg (Nat.ne_of_gt (Nat.mul_pos hm h2)), hlog, e1, e2, e3, e4]
  have hlast : max (-(M : Int) + ((L + M : Nat) : Int) - ((52 : Nat) : Int)) (-1074) = (L : Int) - 52 := by omega
  dsimp only
  rw [hlast]
  have ha : (m * 2 ^ M) <<< (-(M : Int) - ((L : Int) - 52)).toNat = m * 2 ^ (52 - L) * 2 ^ ((L : Int) - 52 - -(M : Int)).toNat := by
    rw [Nat.shiftLeft_eq, Nat.mul_assoc, Nat.mul_assoc, ← Nat.pow_add, ← Nat.pow_add]
    congr 2
    omega
  rw [ha, cut_exact _ _ _ _ c1, show ((L : Int) - 52 - -1074).toNat = L + 1022 by omega, Nat.min_eq_left (by omega)]
theorem FB_word (n : Int) (hn : n.natAbs < 9007199254740992) : FB n = double.word (decide (n < 0)) (rung n.natAbs) := by
  have h := nearest_rung (decide (n < 0)) n.natAbs 0 hn
  rw [Nat.pow_zero, Nat.mul_one] at h
  exact h
theorem FB_fi {n : Int} (hn : n.natAbs < 9007199254740992) : Fi (FB n) n := of_int_fi hn
/- the datum of such a float, its sign said of 0, too -/
theorem FB_read (n : Int) (hn : n.natAbs < 9007199254740992) : ∃ k : Nat, double.read (FB n) = .number (decide (n < 0)) (n.natAbs * 2 ^ k) (-(k : Int)) := by
  have hw := FB_word n hn
  by_cases h0 : n = 0
  · subst h0
    obtain ⟨k, hk⟩ : ∃ k, k = 1074 := ⟨_, rfl⟩
    refine ⟨k, ?_⟩
    rw [Int.natAbs_zero, Nat.zero_mul, hk]
    have e : FB 0 = double.word false 0 := hw
    rw [e]
    decide +kernel
  · have h := read_nearest (decide (n < 0)) n.natAbs 0 (by omega) hn
    rw [nearest_rung _ _ _ hn, ← hw] at h
    exact ⟨_, h⟩
theorem sum_FB {x y : Datum} {a b : Int} {k l : Nat} {s t : Bool} (hx : x = .number s (a.natAbs * 2 ^ k) (-(k : Int))) (hy : y = .number t (b.natAbs * 2 ^ l) (-(l : Int))) (hs : a ≠ 0 → s = decide (a < 0)) (ht : b ≠ 0 → t = decide (b < 0)) (h0 : a + b = 0 → (s && t) = false)
    (hb : (a + b).natAbs < 9007199254740992) : (x.sum y).map double.write = some (FB (a + b)) := by
  subst hx hy
  obtain ⟨M, hM⟩ : ∃ M, M = max k l := ⟨_, rfl⟩
  have hbase : min (-(k : Int)) (-(l : Int)) = -(M : Int) := by omega
  unfold Datum.sum
  dsimp only
  rw [hbase, signed_fi k _ hs, signed_fi l _ ht, show k + (-(k : Int) - -(M : Int)).toNat = M by omega, show l + (-(l : Int) - -(M : Int)).toNat = M by omega, ← Int.add_mul]
  have hp := pow_pos_int M
  rw [Int.natAbs_mul, show ((2 : Int) ^ M).natAbs = 2 ^ M by rw [Int.natAbs_pow]; rfl, FB_word _ hb]
  show some (double.nearest _ _ _) = _
  rw [nearest_rung _ _ _ hb]
  congr 2
  by_cases c0 : a + b = 0
  · rw [h0 c0, c0, Int.zero_mul, if_pos rfl]; rfl
  · rw [if_neg (Int.mul_ne_zero c0 (by omega))]
    by_cases c : a + b < 0
    · rw [decide_eq_true c, decide_eq_true (Int.mul_neg_of_neg_of_pos c hp)]
    · rw [decide_eq_false c, decide_eq_false (by have := Int.mul_nonneg (show 0 ≤ a + b by omega) (Int.le_of_lt hp); omega)]
theorem sub_FB (a b : Int) (ha : 0 ≤ a) (ha2 : a < 4503599627370496) (hb : 0 ≤ b) (hb2 : b < 4503599627370496) : double.sub (FB a) (FB b) = some (FB (a - b)) := by
  obtain ⟨k, hk⟩ := FB_read a (by omega)
  obtain ⟨l, hl⟩ := FB_read b (by omega)
  have hl2 : (double.read (FB b)).opposite = .number (!decide (b < 0)) ((-b).natAbs * 2 ^ l) (-(l : Int)) := by rw [hl, Int.natAbs_neg]; rfl
  have h := sum_FB (a := a) (b := -b) hk hl2 (fun _ => rfl) (fun h => by
    rw [decide_eq_false (by omega), decide_eq_true (by omega)]; rfl) (fun h => by rw [decide_eq_false (by omega)]; rfl) (by omega)
  rw [← Int.sub_eq_add_neg] at h
  exact h
theorem toInt_FB (n : Int) (hn : n.natAbs < 9007199254740992) : floatToIntVal .f64 (FB n) .i64 = some n := to_int_fi (FB_fi hn) (by omega) (by omega)
theorem order_FB (a b : Int) (ha : a.natAbs < 9007199254740992) (hb : b.natAbs < 9007199254740992) : double.order (FB a) (FB b) = some (compare a b) := order_fi (FB_fi ha) (FB_fi hb)
theorem integral_read (n : Int) (hn : n.natAbs < 9007199254740992) (way : Toward) : FloatKind.f64.encode ((double.read (FB n)).integral way) = FB n := by
  obtain ⟨k, hk⟩ := FB_read n hn
  rw [hk]
  have hc : way.cut (decide (n < 0)) (n.natAbs * 2 ^ k) k = n.natAbs := by
    by_cases h0 : n.natAbs = 0
    · rw [h0, Nat.zero_mul]
      cases way <;> simp [Toward.cut]
    · exact cut_exact _ _ _ _ (by omega)
  unfold Datum.integral
  dsimp only
  rw [show (-(k : Int)).toNat = 0 by omega, show (- -(k : Int)).toNat = k by omega, Nat.shiftLeft_zero, hc]
  have h := nearest_rung (decide (n < 0)) n.natAbs 0 hn
  rw [Nat.pow_zero, Nat.mul_one] at h
  rw [FB_word n hn]
  exact h
theorem FB_0 : FB 0 = 0 := by
  have h : FB 0 = double.word false 0 := FB_word 0 (by decide)
  rw [h]; rfl
end Go.Proofs.YtnmjcpoobabjgaaGreatDoor
/- Pieces, plainly: which are right, what they say, how they are written; the pieces that a text is told by. -/
namespace Go.Proofs.YtnmjcpoobabjgaaGreatDoor
open Go.RowKit
/- a piece: n bytes from p on, or, if both are 0, the bytes t -/
structure Pz where
  p : Nat
  n : Nat
  t : List UInt8
/- is it bytes? -/
def Pz.raw (x : Pz) : Prop := x.p = 0 ∧ x.n = 0
instance (x : Pz) : Decidable x.raw := inferInstanceAs (Decidable (_ ∧ _))
def good (b : Nat) (x : Pz) : Prop := if x.raw then 1 ≤ x.t.length ∧ x.t.length ≤ 4099 else x.t = [] ∧ 1 ≤ x.n ∧ x.n ≤ 4099 ∧ x.p + x.n ≤ b
instance (b : Nat) (x : Pz) : Decidable (good b x) := by unfold good; exact inferInstance
def sz (x : Pz) : Nat := if x.raw then x.t.length else x.n
def tz (B : List UInt8) (x : Pz) : List UInt8 := if x.raw then x.t else (B.drop x.p).take x.n
def szs (l : List Pz) : Nat := (l.map sz).sum
def tzs (B : List UInt8) (l : List Pz) : List UInt8 := l.flatMap (tz B)
theorem szs_snoc (l : List Pz) (x : Pz) : szs (l ++ [x]) = szs l + sz x := by simp [szs]
theorem szs_cons (l : List Pz) (x : Pz) : szs (x :: l) = sz x + szs l := by simp [szs]
theorem szs_append (l m : List Pz) : szs (l ++ m) = szs l + szs m := by simp [szs]
theorem tzs_snoc (B : List UInt8) (l : List Pz) (x : Pz) : tzs B (l ++ [x]) = tzs B l ++ tz B x := by simp [tzs]
theorem tz_len {b : Nat} {B : List UInt8} {x : Pz} (h : good b x) (hb : b = B.length) : (tz B x).length = sz x := by
  unfold good at h
  unfold tz sz
  split at h
  · rename_i hr; rw [if_pos hr, if_pos hr]
  · rename_i hr
    rw [if_neg hr, if_neg hr, List.length_take, List.length_drop]; omega
theorem tzs_len {b : Nat} {B : List UInt8} {l : List Pz} (h : ∀ x ∈ l, good b x) (hb : b = B.length) : (tzs B l).length = szs l := by
  induction l with
  | nil => rfl
  | cons x l ih =>
    rw [szs_cons, ← ih (fun y hy => h y (by simp [hy])), ← tz_len (h x (by simp)) hb]
    simp [tzs]
theorem sz_le {b : Nat} {x : Pz} (h : good b x) : 1 ≤ sz x ∧ sz x ≤ 4099 := by
  unfold good at h
  unfold sz
  split at h
  · rename_i hr; rw [if_pos hr]; exact h
  · rename_i hr; rw [if_neg hr]; omega
theorem szs_ge {b : Nat} {l : List Pz} (h : ∀ x ∈ l, good b x) : l.length ≤ szs l := by
  induction l with
  | nil => simp
  | cons x l ih =>
    rw [szs_cons, List.length_cons]
    have h1 := ih (fun y hy => h y (by simp [hy]))
    have h2 := sz_le (h x (by simp))
    omega
theorem szs_take_le (l : List Pz) (k : Nat) : szs (l.take k) ≤ szs l := by
  have h := szs_append (l.take k) (l.drop k)
  rw [List.take_append_drop] at h
  omega
theorem take_next {α : Type} (l : List α) (d : α) (k : Nat) (h : k < l.length) : l.take (k + 1) = l.take k ++ [l.getD k d] := by
  rw [List.take_succ_eq_append_getElem h, List.getD_eq_getElem?_getD, List.getElem?_eq_getElem h]; rfl
theorem getD_mem {α : Type} (l : List α) (d : α) (k : Nat) (h : k < l.length) : l.getD k d ∈ l := by
  rw [List.getD_eq_getElem?_getD, List.getElem?_eq_getElem h]
  exact List.getElem_mem h
/- a piece of bytes, if there are any -/
def rw' (t : List UInt8) : List Pz := if t = [] then [] else [⟨0, 0, t⟩]
/- the pieces from a place on; of those told last not all bytes are told -/
def mk (F : Nat → Nat × Nat) (s : List UInt8) (at_ told : Nat) : List Pz :=
  if _h : at_ < s.length then
    if _hn : (F at_).2 = 0 then mk F s (at_ + 1) told
    else rw' ((s.drop told).take (at_ - told)) ++ [⟨(F at_).1, (F at_).2, []⟩] ++ mk F s (at_ + (F at_).2) (at_ + (F at_).2)
  else rw' (s.drop told)
termination_by s.length - at_
decreasing_by all_goals omega
/- what is found is there -/
end Go.Proofs.YtnmjcpoobabjgaaGreatDoor
/- Pieces as values; which are copies, from where, how many bytes. -/
namespace Go.Proofs.YtnmjcpoobabjgaaGreatDoor
set_option maxRecDepth 100000
open Go.RowKit
theorem run_store_complex (P : Program) (w : World) (a : Addr) (m : Mode) (k : FloatKind) (x y : Nat) : (store a (.complex k x y) m).run P w = stored P w a (.complex k x y) m := run_store P w a _ m rfl
/- a piece's value -/
def cpv (x : Pz) : Value := .complex .f64 (FB (x.p : Int)) (FB (x.n : Int))
def pv (x : Pz) : Value := .agg #[cpv x, .string (bs x.t)]
/- no part is beyond what bytes can say -/
def small (x : Pz) : Prop := x.p ≤ 1099511627775 ∧ x.n ≤ 1099511627775
theorem ord0 (n : Nat) (h : n ≤ 1099511627775) : FloatKind.f64.format.order (FB (n : Int)) 0 = some (if n = 0 then .eq else .gt) := by
  have e := order_FB (n : Int) 0 (by omega) (by decide)
  rw [FB_0] at e
  refine e.trans (congrArg some ?_)
  by_cases c : n = 0
  · subst c; rw [if_pos rfl]; rfl
  · rw [if_neg c]; have h1 : ¬ ((n : Int) < 0) := by omega
    have h2 : ¬ ((n : Int) = 0) := by omega
    simp [compare, compareOfLessAndEq, h1, h2]
    exact c
theorem iscopy_any (x : Pz) (w : World) (hs : small x) : Calls Tryz.prog 145 #[pv x] w fun e w' => e = .returned (.bool (decide (¬ x.raw))) ∧ Below w.heap.size w w' := by
  have o1 := ord0 x.p hs.1
  have o2 := ord0 x.n hs.2
  have r0 : x.raw = (x.p = 0 ∧ x.n = 0) := rfl
  unfold pv cpv
  by_cases c1 : x.p = 0
  · by_cases c2 : x.n = 0
    · rw [if_pos c1] at o1
      rw [if_pos c2] at o2
      rw [decide_eq_false (show ¬ ¬ x.raw by rw [r0]; omega)]
      generalize FB (x.p : Int) = a at *
      generalize FB (x.n : Int) = b at *
      clear c1 c2 hs r0
      go_enter Tryz.func145, Tryz.ntmps145
      go_wp2
      go_ret
      exact ⟨rfl, (Below.refl _ _).alloc (Nat.le_refl _) _⟩
    · rw [if_pos c1] at o1
      rw [if_neg c2] at o2
      rw [decide_eq_true (show ¬ x.raw by rw [r0]; omega)]
      generalize FB (x.p : Int) = a at *
      generalize FB (x.n : Int) = b at *
      clear c1 c2 hs r0
      go_enter Tryz.func145, Tryz.ntmps145
      go_wp2
      go_ret
      exact ⟨rfl, (Below.refl _ _).alloc (Nat.le_refl _) _⟩
  · rw [if_neg c1] at o1
    rw [decide_eq_true (show ¬ x.raw by rw [r0]; omega)]
    generalize FB (x.p : Int) = a at *
    generalize FB (x.n : Int) = b at *
    clear c1 o2 hs r0
    go_enter Tryz.func145, Tryz.ntmps145
    go_wp2
    go_ret
    exact ⟨rfl, (Below.refl _ _).alloc (Nat.le_refl _) _⟩
end Go.Proofs.YtnmjcpoobabjgaaGreatDoor
/- Contracts of the library, laid at this program. -/
namespace Go.Proofs.YtnmjcpoobabjgaaGreatDoor
open Go.Shelf
def lays169_ren : Go.Shelf.Ren := ⟨fun | 169 => 149 | n => n, fun | 70 => 218 | 9 => 9 | 0 => 0 | 72 => 220 | 37 => 63 | 127 => 174 | 3 => 3 | 5 => 5 | n => n, fun | n => n⟩
theorem lays169 : Go.Proofs.Lays.n169 Tryz.prog lays169_ren := {
  mixed := by kernel_rfl
  f169 := Tryz.func149.trans (congrArg some (by kernel_rfl))
  t0 := Tryz.underlying0
  a0 := Tryz.isAgg0
  z0 := Tryz.sizeOf0
  v0 := Tryz.zeroValue0
  t3 := Tryz.underlying3
  a3 := Tryz.isAgg3
  z3 := Tryz.sizeOf3
  v3 := Tryz.zeroValue3
  t9 := Tryz.underlying9
  a9 := Tryz.isAgg9
  z9 := Tryz.sizeOf9
  v9 := Tryz.zeroValue9
  t37 := Tryz.underlying63
  a37 := Tryz.isAgg63
  z37 := Tryz.sizeOf63
  v37 := Tryz.zeroValue63
  t70 := Tryz.underlying218
  a70 := Tryz.isAgg218
  z70 := Tryz.sizeOf218
  v70 := Tryz.zeroValue218
  t72 := Tryz.underlying220
  a72 := Tryz.isAgg220
  z72 := Tryz.sizeOf220
  v72 := Tryz.zeroValue220
  t127 := Tryz.underlying174
  a127 := Tryz.isAgg174
  z127 := Tryz.sizeOf174
  v127 := Tryz.zeroValue174 }
theorem Builder_Extra_169 : Builder.Extra Tryz.prog lays169_ren := {
  sizeBuilder := by kernel_rfl
  liesBuilder := by kernel_rfl
  t5 := Tryz.underlying5
  a5 := Tryz.isAgg5
  z5 := Tryz.sizeOf5
  v5 := Tryz.zeroValue5
  infoByte := by kernel_rfl
  cellsByte := by kernel_rfl
  sizeByte := by kernel_rfl
  neB5 := by decide }
open Go.RowKit in
theorem Builder_String (B b : Nat) (l : List UInt8) (w : World) (h : Lib.IsBuilder 220 5 B b (Lib.byteCells l) w) (h0 : l ≠ []) :
    Calls Tryz.prog 149 #[.pointer (some ⟨b, 0, none⟩)] w fun e w' => e = .returned (.string ⟨l.toArray⟩) ∧ Below B w w' := Any.Builder_String lays169 Builder_Extra_169 B b l w h h0
open Go.RowKit in
theorem Builder_String_empty (B b : Nat) (w : World) (h : Lib.IsBuilder 220 5 B b [] w) (hBw : B ≤ w.heap.size) :
    Calls Tryz.prog 149 #[.pointer (some ⟨b, 0, none⟩)] w fun e w' => e = .returned (.string ⟨#[]⟩) ∧ Below B w w' := Any.Builder_String_empty lays169 Builder_Extra_169 B b w h hBw
open Go.RowKit in
theorem Builder_String_any (B b : Nat) (l : List UInt8) (w : World) (h : Lib.IsBuilder 220 5 B b (Lib.byteCells l) w) (hBw : B ≤ w.heap.size) :
    Calls Tryz.prog 149 #[.pointer (some ⟨b, 0, none⟩)] w fun e w' => e = .returned (.string ⟨l.toArray⟩) ∧ Below B w w' := Any.Builder_String_any lays169 Builder_Extra_169 B b l w h hBw
def laysM316_ren : Go.Shelf.Ren := ⟨fun | 316 => 83 | n => n, fun | 9 => 9 | 3 => 3 | 4 => 4 | 37 => 63 | 0 => 0 | 127 => 174 | 5 => 5 | n => n, fun | n => n⟩
theorem laysM316 : Go.Proofs.LaysM.n316 Tryz.prog laysM316_ren := {
  mixed := by kernel_rfl
  f316 := Tryz.func83.trans (congrArg some (by kernel_rfl))
  t0 := Tryz.underlying0
  a0 := Tryz.isAgg0
  z0 := Tryz.sizeOf0
  v0 := Tryz.zeroValue0
  t3 := Tryz.underlying3
  a3 := Tryz.isAgg3
  z3 := Tryz.sizeOf3
  v3 := Tryz.zeroValue3
  t4 := Tryz.underlying4
  a4 := Tryz.isAgg4
  z4 := Tryz.sizeOf4
  v4 := Tryz.zeroValue4
  t9 := Tryz.underlying9
  a9 := Tryz.isAgg9
  z9 := Tryz.sizeOf9
  v9 := Tryz.zeroValue9
  t37 := Tryz.underlying63
  a37 := Tryz.isAgg63
  z37 := Tryz.sizeOf63
  v37 := Tryz.zeroValue63
  t127 := Tryz.underlying174
  a127 := Tryz.isAgg174
  z127 := Tryz.sizeOf174
  v127 := Tryz.zeroValue174
  t5 := Tryz.underlying5
  a5 := Tryz.isAgg5
  z5 := Tryz.sizeOf5
  v5 := Tryz.zeroValue5
  i0 := by kernel_rfl
  i3 := by kernel_rfl
  i4 := by kernel_rfl
  i5 := by kernel_rfl
  i9 := by kernel_rfl
  i37 := by kernel_rfl
  i127 := by kernel_rfl }
open Go.RowKit in
theorem clone_shelf0 (s : ByteArray) (w : World) (hlim : s.size ≤ 281474976710656) :
    Calls Tryz.prog 83 #[.string s] w fun e w' => e = .returned (.string s) ∧ Below w.heap.size w w' := Any.stringslite_Clone laysM316 s w hlim
def lays217_ren : Go.Shelf.Ren := ⟨fun | 217 => 105 | 266 => 123 | n => n, fun | 9 => 9 | 5 => 5 | 3 => 3 | n => n, fun | n => n⟩
theorem lays217 : Go.Proofs.Lays.n217 Tryz.prog lays217_ren := {
  mixed := by kernel_rfl
  f217 := Tryz.func105.trans (congrArg some (by kernel_rfl))
  f266 := Tryz.func123.trans (congrArg some (by kernel_rfl))
  t3 := Tryz.underlying3
  a3 := Tryz.isAgg3
  z3 := Tryz.sizeOf3
  v3 := Tryz.zeroValue3
  t5 := Tryz.underlying5
  a5 := Tryz.isAgg5
  z5 := Tryz.sizeOf5
  v5 := Tryz.zeroValue5
  t9 := Tryz.underlying9
  a9 := Tryz.isAgg9
  z9 := Tryz.sizeOf9
  v9 := Tryz.zeroValue9 }
open Go.RowKit Go.Lib in
theorem stringslite_IndexByte (s : ByteArray) (c : Int) (w : World) :
    Calls Tryz.prog 105 #[.string s, .int .u8 c] w fun e w' => e = .returned (.int .i64 (Lib.indexByte s.data.toList c.toNat.toUInt8)) ∧ w' = w := Any.stringslite_IndexByte lays217 s c w
def lays224_ren : Go.Shelf.Ren := ⟨fun | 224 => 107 | n => n, fun | 3 => 3 | n => n, fun | n => n⟩
theorem lays224 : Go.Proofs.Lays.n224 Tryz.prog lays224_ren := {
  mixed := by kernel_rfl
  f224 := Tryz.func107.trans (congrArg some (by kernel_rfl))
  t3 := Tryz.underlying3
  a3 := Tryz.isAgg3
  z3 := Tryz.sizeOf3
  v3 := Tryz.zeroValue3 }
open Go.RowKit Go.Lib in
theorem bytealg_Cutover (n : Int) (h0 : 0 ≤ n) (h1 : n < 4611686018427387904) (w : World) :
    Calls Tryz.prog 107 #[.int .i64 n] w fun e w' => e = .returned (.int .i64 ((n + 16) / 8)) ∧ w' = w := Any.bytealg_Cutover lays224 n h0 h1 w
def lays314_ren : Go.Shelf.Ren := ⟨fun | 314 => 124 | n => n, fun | 9 => 9 | 51 => 113 | 3 => 3 | 4 => 4 | 5 => 5 | 46 => 126 | n => n, fun | n => n⟩
theorem lays314 : Go.Proofs.Lays.n314 Tryz.prog lays314_ren := {
  mixed := by kernel_rfl
  f314 := Tryz.func124.trans (congrArg some (by kernel_rfl))
  t3 := Tryz.underlying3
  a3 := Tryz.isAgg3
  z3 := Tryz.sizeOf3
  v3 := Tryz.zeroValue3
  t4 := Tryz.underlying4
  a4 := Tryz.isAgg4
  z4 := Tryz.sizeOf4
  v4 := Tryz.zeroValue4
  t5 := Tryz.underlying5
  a5 := Tryz.isAgg5
  z5 := Tryz.sizeOf5
  v5 := Tryz.zeroValue5
  t9 := Tryz.underlying9
  a9 := Tryz.isAgg9
  z9 := Tryz.sizeOf9
  v9 := Tryz.zeroValue9
  t46 := Tryz.underlying126
  a46 := Tryz.isAgg126
  z46 := Tryz.sizeOf126
  v46 := Tryz.zeroValue126
  t51 := Tryz.underlying113
  a51 := Tryz.isAgg113
  z51 := Tryz.sizeOf113
  v51 := Tryz.zeroValue113 }
open Go.RowKit Go.Lib in
theorem bytealg_hashStr (sep : ByteArray) (hs : sep.size < 4294967281) (w : World) :
    Calls Tryz.prog 124 #[.string sep] w fun e w' => e = .returned (.tuple #[.int .u32 (RK.H sep.data.toList % 4294967296), .int .u32 (16777619 ^ sep.size % 4294967296)]) ∧ w' = w := Any.bytealg_hashStr lays314 sep hs w
def lays267_ren : Go.Shelf.Ren := ⟨fun | 267 => 108 | 314 => 124 | n => n, fun | 9 => 9 | 3 => 3 | 146 => 199 | 51 => 113 | 4 => 4 | 5 => 5 | 46 => 126 | n => n, fun | n => n⟩
theorem lays267 : Go.Proofs.Lays.n267 Tryz.prog lays267_ren := {
  mixed := by kernel_rfl
  f267 := Tryz.func108.trans (congrArg some (by kernel_rfl))
  f314 := Tryz.func124.trans (congrArg some (by kernel_rfl))
  t3 := Tryz.underlying3
  a3 := Tryz.isAgg3
  z3 := Tryz.sizeOf3
  v3 := Tryz.zeroValue3
  t4 := Tryz.underlying4
  a4 := Tryz.isAgg4
  z4 := Tryz.sizeOf4
  v4 := Tryz.zeroValue4
  t5 := Tryz.underlying5
  a5 := Tryz.isAgg5
  z5 := Tryz.sizeOf5
  v5 := Tryz.zeroValue5
  t9 := Tryz.underlying9
  a9 := Tryz.isAgg9
  z9 := Tryz.sizeOf9
  v9 := Tryz.zeroValue9
  t46 := Tryz.underlying126
  a46 := Tryz.isAgg126
  z46 := Tryz.sizeOf126
  v46 := Tryz.zeroValue126
  t51 := Tryz.underlying113
  a51 := Tryz.isAgg113
  z51 := Tryz.sizeOf113
  v51 := Tryz.zeroValue113
  t146 := Tryz.underlying199
  a146 := Tryz.isAgg199
  z146 := Tryz.sizeOf199
  v146 := Tryz.zeroValue199 }
open Go.RowKit Go.Lib in
theorem bytealg_IndexRabinKarp (s sep : ByteArray) (h1 : 1 ≤ sep.size) (h2 : sep.size ≤ s.size) (hs : s.size < 4294967281) (w : World) :
    Calls Tryz.prog 108 #[.string s, .string sep] w fun e w' => e = .returned (.int .i64 (Lib.index s.data.toList sep.data.toList)) ∧ w' = w := Any.bytealg_IndexRabinKarp lays267 s sep h1 h2 hs w
def lays219_ren : Go.Shelf.Ren := ⟨fun | 219 => 88 | 217 => 105 | 225 => 106 | 224 => 107 | 267 => 108 | 266 => 123 | 314 => 124 | n => n, fun | 9 => 9 | 3 => 3 | 4 => 4 | 5 => 5 | 46 => 126 | 146 => 199 | 51 => 113 | n => n, fun | 1 => 0 | n => n⟩
theorem lays219 : Go.Proofs.Lays.n219 Tryz.prog lays219_ren := {
  mixed := by kernel_rfl
  f217 := Tryz.func105.trans (congrArg some (by kernel_rfl))
  f219 := Tryz.func88.trans (congrArg some (by kernel_rfl))
  f224 := Tryz.func107.trans (congrArg some (by kernel_rfl))
  f225 := Tryz.func106.trans (congrArg some (by kernel_rfl))
  f266 := Tryz.func123.trans (congrArg some (by kernel_rfl))
  f267 := Tryz.func108.trans (congrArg some (by kernel_rfl))
  f314 := Tryz.func124.trans (congrArg some (by kernel_rfl))
  t3 := Tryz.underlying3
  a3 := Tryz.isAgg3
  z3 := Tryz.sizeOf3
  v3 := Tryz.zeroValue3
  t4 := Tryz.underlying4
  a4 := Tryz.isAgg4
  z4 := Tryz.sizeOf4
  v4 := Tryz.zeroValue4
  t5 := Tryz.underlying5
  a5 := Tryz.isAgg5
  z5 := Tryz.sizeOf5
  v5 := Tryz.zeroValue5
  t9 := Tryz.underlying9
  a9 := Tryz.isAgg9
  z9 := Tryz.sizeOf9
  v9 := Tryz.zeroValue9
  t46 := Tryz.underlying126
  a46 := Tryz.isAgg126
  z46 := Tryz.sizeOf126
  v46 := Tryz.zeroValue126
  t51 := Tryz.underlying113
  a51 := Tryz.isAgg113
  z51 := Tryz.sizeOf113
  v51 := Tryz.zeroValue113
  t146 := Tryz.underlying199
  a146 := Tryz.isAgg199
  z146 := Tryz.sizeOf199
  v146 := Tryz.zeroValue199
  g1 := by kernel_rfl }
open Go.RowKit Go.Lib in
theorem stringslite_Index_one (s : ByteArray) (c : UInt8) (w : World) :
    Calls Tryz.prog 88 #[.string s, .string ⟨#[c]⟩] w fun e w' => e = .returned (.int .i64 (Lib.indexByte s.data.toList c)) ∧ w' = w := Any.stringslite_Index_one lays219 s c w
open Go.RowKit Go.Lib in
theorem stringslite_Index (s sub : ByteArray) (m : Int) (w : World) (hs : s.size < 4294967281) (hm : w.cell? ⟨0, 0, none⟩ = some (.int .i64 m)) :
    Calls Tryz.prog 88 #[.string s, .string sub] w fun e w' => e = .returned (.int .i64 (Lib.index s.data.toList sub.data.toList)) ∧ w' = w := Any.stringslite_Index lays219 s sub m w hs hm
def lays143_ren : Go.Shelf.Ren := ⟨fun | 143 => 69 | 219 => 88 | 217 => 105 | 225 => 106 | 224 => 107 | 267 => 108 | 266 => 123 | 314 => 124 | n => n, fun | 9 => 9 | 3 => 3 | 4 => 4 | 5 => 5 | 46 => 126 | 146 => 199 | 51 => 113 | n => n, fun | 1 => 0 | n => n⟩
theorem lays143 : Go.Proofs.Lays.n143 Tryz.prog lays143_ren := {
  mixed := by kernel_rfl
  f143 := Tryz.func69.trans (congrArg some (by kernel_rfl))
  f217 := Tryz.func105.trans (congrArg some (by kernel_rfl))
  f219 := Tryz.func88.trans (congrArg some (by kernel_rfl))
  f224 := Tryz.func107.trans (congrArg some (by kernel_rfl))
  f225 := Tryz.func106.trans (congrArg some (by kernel_rfl))
  f266 := Tryz.func123.trans (congrArg some (by kernel_rfl))
  f267 := Tryz.func108.trans (congrArg some (by kernel_rfl))
  f314 := Tryz.func124.trans (congrArg some (by kernel_rfl))
  t3 := Tryz.underlying3
  a3 := Tryz.isAgg3
  z3 := Tryz.sizeOf3
  v3 := Tryz.zeroValue3
  t4 := Tryz.underlying4
  a4 := Tryz.isAgg4
  z4 := Tryz.sizeOf4
  v4 := Tryz.zeroValue4
  t5 := Tryz.underlying5
  a5 := Tryz.isAgg5
  z5 := Tryz.sizeOf5
  v5 := Tryz.zeroValue5
  t9 := Tryz.underlying9
  a9 := Tryz.isAgg9
  z9 := Tryz.sizeOf9
  v9 := Tryz.zeroValue9
  t46 := Tryz.underlying126
  a46 := Tryz.isAgg126
  z46 := Tryz.sizeOf126
  v46 := Tryz.zeroValue126
  t51 := Tryz.underlying113
  a51 := Tryz.isAgg113
  z51 := Tryz.sizeOf113
  v51 := Tryz.zeroValue113
  t146 := Tryz.underlying199
  a146 := Tryz.isAgg199
  z146 := Tryz.sizeOf199
  v146 := Tryz.zeroValue199
  g1 := by kernel_rfl }
open Go.RowKit Go.Lib in
theorem strings_Index_one (s : ByteArray) (c : UInt8) (w : World) :
    Calls Tryz.prog 69 #[.string s, .string ⟨#[c]⟩] w fun e w' => e = .returned (.int .i64 (Lib.indexByte s.data.toList c)) ∧ w' = w := Any.strings_Index_one lays143 s c w
open Go.RowKit Go.Lib in
theorem strings_Index (s sub : ByteArray) (m : Int) (w : World) (hs : s.size < 4294967281) (hm : w.cell? ⟨0, 0, none⟩ = some (.int .i64 m)) :
    Calls Tryz.prog 69 #[.string s, .string sub] w fun e w' => e = .returned (.int .i64 (Lib.index s.data.toList sub.data.toList)) ∧ w' = w := Any.strings_Index lays143 s sub m w hs hm
end Go.Proofs.YtnmjcpoobabjgaaGreatDoor
/- A new reader; its first error; where all was read. -/
namespace Go.Proofs.YtnmjcpoobabjgaaGreatDoor
open Go.RowKit
theorem clone_any (s : ByteArray) (w : World) (hs : s.size ≤ 281474976710656) :
    Calls Tryz.prog 59 #[.string s] w fun e w' => e = .returned (.string s) ∧ Below w.heap.size w w' := by
  have H := clone_shelf0 s w hs
  go_enter Tryz.func59, Tryz.ntmps59
  go_wp2_with fail
  refine H.mono ?_
  rintro e w1 ⟨rfl, L⟩
  go_wp2
  go_ret
  exact ⟨rfl, L⟩
set_option maxHeartbeats 400000 in
set_option maxRecDepth 100000 in
theorem new_any (l : List UInt8) (w : World) (hs : l.length ≤ 281474976710656) :
    Calls Tryz.prog 37 #[.string (bs l)] w fun e w' => ∃ r, e = .returned (.pointer (some ⟨r, 0, none⟩)) ∧ w.heap.size ≤ r ∧ Rd w' r l 0 0 ∧ Below w.heap.size w w' := by
  have H := clone_any (bs l) w (by rw [bs_size]; exact hs)
  have E : Hid (∀ w1 : World, Rd (w1.alloc (.cells #[.string (bs l), .int .i64 0, .int .i64 0] 116)) w1.heap.size l 0 0) := fun w1 => heap_alloc_new _ _
  obtain ⟨sb, hsb⟩ : ∃ sb, sb = bs l := ⟨_, rfl⟩
  rw [← hsb] at H E ⊢
  clear hsb hs
  go_enter Tryz.func37, Tryz.ntmps37
  go_wp2_with fail
  refine H.mono ?_
  rintro e w1 ⟨rfl, L⟩
  go_wp2
  go_ret
  exact ⟨_, rfl, L.size, E.out _, L.alloc L.size _⟩
theorem err_any {w : World} {r : Nat} {l p e} (h : Rd w r l p e) : Calls Tryz.prog 65 #[.pointer (some ⟨r, 0, none⟩)] w fun v w' => v = .returned (.int .i64 e) ∧ w = w' := by
  obtain ⟨c0, c1, c2, f1, f2⟩ := h.cells
  clear h c0 c1 f1 f2
  go_enter Tryz.func65, Tryz.ntmps65
  go_wp2
  go_ret
  exact ⟨rfl, rfl⟩
theorem below_drewN {B : Nat} {a w : World} (h : Below B a w) (n : Nat) : Below B a (w.drewN n) := h.trans ⟨rfl, rfl, rfl, Nat.le_refl _, fun _ _ => rfl⟩
/- what End says -/
def endOf (n p : Nat) (e : Int) : Int := if e ≠ 0 then e else if p < n then 5 else 0
set_option maxHeartbeats 400000 in
set_option maxRecDepth 100000 in
theorem end_any {w : World} {r : Nat} {l p e} (h : Rd w r l p e) : Calls Tryz.prog 62 #[.pointer (some ⟨r, 0, none⟩)] w fun v w' => v = .returned (.int .i64 (endOf l.length p e)) ∧ Below w.heap.size w w' := by
  have H := err_any h
  obtain ⟨c0, c1, c2, f1, f2⟩ := h.cells
  have hz := bs_size l
  obtain ⟨sb, hsb⟩ : ∃ sb, sb = bs l := ⟨_, rfl⟩
  rw [← hsb] at c0 hz
  clear h f1 f2 c2 hsb
  by_cases he : e = 0
  · subst he
    by_cases hp : p < l.length
    · have e1 : endOf l.length p 0 = 5 := by unfold endOf; rw [if_neg (by omega), if_pos hp]
      have t1 : (p : Int) < (sb.size : Int) := by omega
      rw [e1]
      clear hz hp e1
      go_enter Tryz.func62, Tryz.ntmps62
      go_wp2_with fail
      refine H.mono ?_
      rintro e w1 ⟨rfl, rfl⟩
      go_wp2
      go_quiet (fail)
      go_wp2
      go_ret
      exact ⟨rfl, below_drewN (Below.refl _ _) _⟩
    · have e1 : endOf l.length p 0 = 0 := by unfold endOf; rw [if_neg (by omega), if_neg hp]
      have t1 : ¬ ((p : Int) < (sb.size : Int)) := by omega
      rw [e1]
      clear hz hp e1
      go_enter Tryz.func62, Tryz.ntmps62
      go_wp2_with fail
      refine H.mono ?_
      rintro e w1 ⟨rfl, rfl⟩
      go_wp2
      go_quiet (fail)
      go_wp2
      go_ret
      exact ⟨rfl, below_drewN (Below.refl _ _) _⟩
  · have e1 : endOf l.length p e = e := by unfold endOf; rw [if_pos he]
    rw [e1]
    clear hz e1 c0 c1
    go_enter Tryz.func62, Tryz.ntmps62
    go_wp2_with fail
    refine H.mono ?_
    rintro e w1 ⟨rfl, rfl⟩
    go_wp2
    go_ret
    exact ⟨rfl, Below.refl _ _⟩
end Go.Proofs.YtnmjcpoobabjgaaGreatDoor
/- How a number is read: the run with its two labels. -/
namespace Go.Proofs.YtnmjcpoobabjgaaGreatDoor
open Go.RowKit
/- as Q; by a goto to a label l: J l -/
def exitJumps (J : Nat → Act → World → Prop) (Q : Exit → Act → World → Prop) : Exit → Act → World → Prop
  | .goto l, a, w => J l a w
  | e, a, w => Q e a w
/- a scope with labels, to which the run jumps forward and back: what holds at every jump, and a measure that every jump lowers -/
theorem wp_scope_labels {P : Program} {a : Act} {w : World} {Q : Exit → Act → World → Prop} {c : Code} (J : Nat → Act → World → Prop) (m : Nat → Act → World → Nat)
    (first : c.wp P (exitJumps J Q) a w)
    (pass : ∀ l a w, J l a w → ∃ rest, findLabel c l = some rest ∧ rest.wp P (exitJumps (fun l' a' w' => J l' a' w' ∧ m l' a' w' < m l a w) Q) a w) : (Code.scope c).wp P Q a w := by
  intro b k cs
  have key : ∀ n l rest a w, findLabel c l = some rest → m l a w = n → J l a w → ∃ e a' w', Q e a' w' ∧ Arrives P (lone (b.at a (.code rest :: .inScope c :: k)) cs w) b k cs e a' w' := by
    intro n
    induction n using Nat.strongRecOn with
    | _ n ih =>
      intro l rest a w hf hn hJ
      obtain ⟨rest', hf', hp⟩ := pass l a w hJ
      rw [hf] at hf'
      cases hf'
      obtain ⟨e, a1, w1, hq, harr⟩ := hp b (.inScope c :: k) cs
      cases e with
      | normal => exact ⟨.normal, a1, w1, hq, Steps.trans harr (.one step_inScope)⟩
      | exit id => exact ⟨.exit id, a1, w1, hq, fun k' hk => harr k' (by simp [exitTo, hk])⟩
      | goto l' =>
        obtain ⟨hJ', hlt⟩ := hq
        obtain ⟨rest2, hf2, _⟩ := pass l' a1 w1 hJ'
        obtain ⟨e2, a2, w2, hq2, harr2⟩ := ih _ (by omega) l' rest2 a1 w1 hf2 rfl hJ'
        exact ⟨e2, a2, w2, hq2, .of_steps (harr _ (by simp [gotoIn, hf2])) harr2⟩
      | ret => exact ⟨_, a1, w1, hq, harr⟩
      | panic ch => exact ⟨_, a1, w1, hq, harr⟩
      | outgrown => exact ⟨_, a1, w1, hq, harr⟩
  obtain ⟨e, a1, w1, hq, harr⟩ := first b (.inScope c :: k) cs
  cases e with
  | normal => exact ⟨.normal, a1, w1, hq, .head step_scope (Steps.trans harr (.one step_inScope))⟩
  | exit id => exact ⟨.exit id, a1, w1, hq, fun k' hk => .head step_scope (harr k' (by simp [exitTo, hk]))⟩
  | goto l' =>
    obtain ⟨rest2, hf2, _⟩ := pass l' a1 w1 hq
    obtain ⟨e2, a2, w2, hq2, harr2⟩ := key _ l' rest2 a1 w1 hf2 rfl hq
    exact ⟨e2, a2, w2, hq2, .of_steps (.head step_scope (harr _ (by simp [gotoIn, hf2]))) harr2⟩
  | ret => exact ⟨_, a1, w1, hq, .of_steps (.one step_scope) harr⟩
  | panic ch => exact ⟨_, a1, w1, hq, .of_steps (.one step_scope) harr⟩
  | outgrown => exact ⟨_, a1, w1, hq, .of_steps (.one step_scope) harr⟩
/- the same with two labels, 0 and 1, where the run first comes to label 1 -/
theorem wp_scope_two {P : Program} {a : Act} {w : World} {Q : Exit → Act → World → Prop} {c X X0 : Code} (J : Nat → Act → World → Prop) (m : Nat → Act → World → Nat) (hX : findLabel c 1 = some (.seq .skip X)) (hX0 : findLabel c 0 = some (.seq .skip X0)) (hJ : ∀ l a w, J l a w → l = 0 ∨ l = 1)
    (first : ∀ R : Exit → Act → World → Prop, (∀ a w, J 1 a w → X.wp P R a w) → c.wp P R a w)
    (p0 : ∀ a w, J 0 a w → X0.wp P (exitJumps (fun l' a' w' => J l' a' w' ∧ m l' a' w' < m 0 a w) Q) a w)
    (p1 : ∀ a w, J 1 a w → X.wp P (exitJumps (fun l' a' w' => J l' a' w' ∧ m l' a' w' < m 1 a w) Q) a w) : (Code.scope c).wp P Q a w := by
  refine wp_scope_labels J m (first _ fun a w h b k cs => ?_) fun l a w h => ?_
  · obtain ⟨e, a1, w1, hq, harr⟩ := p1 a w h b k cs
    refine ⟨e, a1, w1, ?_, harr⟩
    cases e with
    | goto l => exact hq.1
    | normal => exact hq
    | exit id => exact hq
    | ret => exact hq
    | panic ch => exact hq
    | outgrown => exact hq
  · rcases hJ l a w h with rfl | rfl
    · exact ⟨_, hX0, wp_seq (wp_skip (p0 a w h))⟩
    · exact ⟨_, hX, wp_seq (wp_skip (p1 a w h))⟩
/- what holds at a jump: to 0, all is wrong; to 1, k digits are behind, their sum acc -/
def NumJ (sb : ByteArray) (l : List UInt8) (most : Int) (w : World) (lab : Nat) (a : Act) (w' : World) : Prop :=
  w = w' ∧
  ((lab = 0 ∧ ∃ (e : Int) (u4 u5 u7 u8 u9 u10 u11 u12 u13 u14 u15 u16 u17 u18 u19 u20 u21 u22 u23 u24 u25 u26 u27 u28 u29 u30 u31 u32 u33 u34 u35 u36 u37 u38 u39 u40 u41 u42 u43 u44 : Value), a = { tmps := #[.string sb, .int .i64 most, undef, undef, u4, u5, .int .i64 e, u7, u8, u9, u10, u11, u12, u13, u14, u15, u16, u17, u18, u19, u20, u21, u22, u23, u24, u25, u26, u27, u28, u29, u30, u31, u32, u33, u34, u35, u36, u37, u38, u39, u40, u41, u42, u43, u44], defers := [] } ∧ rd most l 0 0 = (0, 0, e)) ∨
   (lab = 1 ∧ ∃ (k acc : Nat) (u7 u8 u9 u10 u11 u12 u13 u14 u15 u16 u17 u18 u19 u20 u21 u22 u23 u24 u25 u26 u27 u28 u29 u30 u31 u32 u33 u34 u35 u36 u37 u38 u39 u40 u41 u42 u43 u44 : Value), a = { tmps := #[.string sb, .int .i64 most, undef, undef, .int .i64 acc, .int .i64 k, .int .i64 0, u7, u8, u9, u10, u11, u12, u13, u14, u15, u16, u17, u18, u19, u20, u21, u22, u23, u24, u25, u26, u27, u28, u29, u30, u31, u32, u33, u34, u35, u36, u37, u38, u39, u40, u41, u42, u43, u44], defers := [] } ∧ k ≤ 6 ∧ k ≤ l.length ∧ acc < 128 ^ k ∧ rd most l 0 0 = rd most (l.drop k) k acc))
def numM (lab : Nat) (a : Act) (_ : World) : Nat := if lab = 0 then 0 else 7 - (intOf (a.tmps.getD 5 undef)).toNat
/- one byte more -/
theorem drop_next (l : List UInt8) (k : Nat) (h : k < l.length) : l.drop k = l[k] :: l.drop (k + 1) := List.drop_eq_getElem_cons h
def acc2 (acc k : Nat) (b : UInt8) : Nat := acc + b.toNat % 128 * 128 ^ k
theorem acc2_lt (acc k : Nat) (b : UInt8) (h : acc < 128 ^ k) : acc2 acc k b < 128 ^ (k + 1) := by
  unfold acc2
  have h1 : b.toNat % 128 < 128 := Nat.mod_lt _ (by decide)
  have h2 : b.toNat % 128 * 128 ^ k ≤ 127 * 128 ^ k := Nat.mul_le_mul_right _ (by omega)
  rw [Nat.pow_succ]
  omega
theorem pow_six {k : Nat} (h : k ≤ 6) : 128 ^ k ≤ 4398046511104 := by
  have h2 : (128 : Nat) ^ k ≤ 128 ^ 6 := Nat.pow_le_pow_right (by decide) h
  have h3 : (128 : Nat) ^ 6 = 4398046511104 := by decide
  omega
theorem acc2_int (acc k : Nat) (b : UInt8) (h : acc < 128 ^ k) (hk : k ≤ 5) : wrap64 ((acc : Int) + wrap64 ((b.toNat : Int) % 128 * 2 ^ (k * 7))) = ((acc2 acc k b : Nat) : Int) := by
  have h0 := acc2_lt acc k b h
  have h6 := pow_six (show k + 1 ≤ 6 by omega)
  have e1 : ((b.toNat : Int) % 128 * 2 ^ (k * 7)) = ((b.toNat % 128 * 128 ^ k : Nat) : Int) := by
    rw [show (128 : Nat) = 2 ^ 7 by rfl, ← Nat.pow_mul, Nat.mul_comm 7 k]
    simp
  rw [e1]
  unfold acc2 at h0 ⊢
  rw [show wrap64 ((b.toNat % 128 * 128 ^ k : Nat) : Int) = ((b.toNat % 128 * 128 ^ k : Nat) : Int) from by simp only [wrap64]; omega]
  simp only [wrap64]
  omega
set_option maxHeartbeats 1000000 in
set_option maxRecDepth 1000000 in
theorem num_any (l : List UInt8) (most : Int) (w : World) (hl : l.length ≤ 281474976710656) :
    Calls Tryz.prog 84 #[.string (bs l), .int .i64 most] w fun e w' => e = .returned (.tuple #[.int .i64 (rd most l 0 0).1, .int .i64 (rd most l 0 0).2.1, .int .i64 (rd most l 0 0).2.2]) ∧ w = w' := by
  have hz := bs_size l
  have hat : Hid (∀ k (h1 : k < (bs l).size) (h2 : k < l.length), (bs l)[k]'h1 = l[k]'h2) := fun k h1 h2 => by simp [bs]; rfl
  obtain ⟨sb, hsb⟩ : ∃ sb, sb = bs l := ⟨_, rfl⟩
  rw [← hsb] at hz hat ⊢
  have HZ := Lib.hid hz
  clear hsb hz
  go_enter Tryz.func84, Tryz.ntmps84
  go_wp2
  refine wp_scope_two (NumJ sb l most w) numM rfl rfl (fun lab a w' h => h.2.elim (fun h => Or.inl h.1) (fun h => Or.inr h.1)) ?_ ?_ ?_
  · intro R hR
    go_wp2
    go_step3
    rename_i K0 hK0
    exact hK0 _ _ (hR _ _ ⟨rfl, Or.inr ⟨rfl, 0, 0, _, _, _, _, _, _, _, _, _, _, _, _, _, _, _, _, _, _, _, _, _, _, _, _, _, _, _, _, _, _, _, _, _, _, _, _, _, _, rfl, by omega, by omega, by decide, by rw [List.drop_zero]⟩⟩)
  · rintro a w' ⟨rfl, ⟨_, e, u4, u5, u7, u8, u9, u10, u11, u12, u13, u14, u15, u16, u17, u18, u19, u20, u21, u22, u23, u24, u25, u26, u27, u28, u29, u30, u31, u32, u33, u34, u35, u36, u37, u38, u39, u40, u41, u42, u43, u44, ha, hr⟩ | ⟨h01, _⟩⟩
    · dsimp only at ha
      subst ha
      have HR := Lib.hid hr
      clear hr
      go_wp2
      simp only [exitJumps]
      go_ret3
      exact ⟨by rw [HR.out]; rfl, rfl⟩
    · cases h01
  · rintro a w' ⟨rfl, ⟨h01, _⟩ | ⟨_, k, acc, u7, u8, u9, u10, u11, u12, u13, u14, u15, u16, u17, u18, u19, u20, u21, u22, u23, u24, u25, u26, u27, u28, u29, u30, u31, u32, u33, u34, u35, u36, u37, u38, u39, u40, u41, u42, u43, u44, ha, hk6, hkl, hacc, hr⟩⟩
    · cases h01
    · dsimp only at ha
      subst ha
      have HR := Lib.hid hr
      have HA := Lib.hid hacc
      clear hr hacc
      by_cases c6 : k = 6
      · have d6 : ((k : Int) == 6) = true := by simp; omega
        have C6 := Lib.hid c6
        clear c6
        go_wp2
        go_step3
        exact ⟨⟨rfl, Or.inl ⟨rfl, 4, _, _, _, _, _, _, _, _, _, _, _, _, _, _, _, _, _, _, _, _, _, _, _, _, _, _, _, _, _, _, _, _, _, _, _, _, _, _, _, _, rfl, by rw [HR.out, C6.out]; cases l.drop 6 <;> simp [rd]⟩⟩, by show 0 < 7 - (intOf (.int .i64 (k : Int))).toNat; simp [intOf]; omega⟩
      · have d6 : ((k : Int) == 6) = false := by simp; omega
        have C5 : Hid (k ≤ 5) := by show k ≤ 5; omega
        have k5 : k ≤ 5 := C5.out
        clear c6 hk6
        by_cases cl : k = l.length
        · have dl : ((k : Int) == (sb.size : Int)) = true := by rw [HZ.out, cl]; simp
          have CL := Lib.hid cl
          clear cl hkl
          go_wp2
          go_step3
          have := C5.out
          exact ⟨⟨rfl, Or.inl ⟨rfl, 3, _, _, _, _, _, _, _, _, _, _, _, _, _, _, _, _, _, _, _, _, _, _, _, _, _, _, _, _, _, _, _, _, _, _, _, _, _, _, _, _, rfl, by rw [HR.out, show l.drop k = [] from by rw [CL.out, List.drop_length], rd, if_neg (by omega)]⟩⟩, by show 0 < 7 - (intOf (.int .i64 (k : Int))).toNat; simp [intOf]; omega⟩
        · have dl : ((k : Int) == (sb.size : Int)) = false := by rw [HZ.out]; simp; omega
          have dlt : k < sb.size := by rw [HZ.out]; omega
          have hb0 := hat.out k dlt (by omega)
          obtain ⟨b, hb⟩ : ∃ b, sb[k]'dlt = b := ⟨_, rfl⟩
          have hn := drop_next l k (by omega)
          rw [← hb0, hb] at hn
          have A := acc2_int acc k b HA.out C5.out
          have A2 := Lib.hid (acc2_lt acc k b HA.out)
          obtain ⟨q, hq⟩ : ∃ q, q = acc2 acc k b := ⟨_, rfl⟩
          rw [← hq] at A A2
          have HN := Lib.hid hn
          have HQ : Hid (acc + b.toNat % 128 * 128 ^ k = q) := hq.symm
          have HL : Hid (k + 1 ≤ l.length) := by show k + 1 ≤ l.length; omega
          clear hn hb0 hq cl hkl
          by_cases b7 : 128 ≤ b.toNat
          · have t7 : (128 : Int) ≤ (b.toNat : Int) := by omega
            have HB := Lib.hid b7
            clear b7
            go_wp2
            go_step3
            have := C5.out
            exact ⟨⟨rfl, Or.inr ⟨rfl, k + 1, q, _, _, _, _, _, _, _, _, _, _, _, _, _, _, _, _, _, _, _, _, _, _, _, _, _, _, _, _, _, _, _, _, _, _, _, _, _, _, rfl, by omega, HL.out, A2.out, by rw [HR.out, HN.out, rd, if_neg (by omega), if_pos HB.out, HQ.out]⟩⟩, by show 7 - (intOf (.int .i64 ((k : Int) + 1))).toNat < 7 - (intOf (.int .i64 (k : Int))).toNat; simp [intOf]; omega⟩
          · have t7 : decide ((128 : Int) ≤ (b.toNat : Int)) = false := by simp; omega
            have HB := Lib.hid b7
            clear b7
            by_cases b0 : b.toNat = 0 ∧ 0 < k
            · have s0 : ((b.toNat : Int) == 0) = true := by simp; omega
              have s1 : (1 : Int) < (k : Int) + 1 := by omega
              have B0 := Lib.hid b0
              clear b0
              go_wp2
              go_step3
              have := C5.out
              exact ⟨⟨rfl, Or.inl ⟨rfl, 2, _, _, _, _, _, _, _, _, _, _, _, _, _, _, _, _, _, _, _, _, _, _, _, _, _, _, _, _, _, _, _, _, _, _, _, _, _, _, _, _, rfl, by rw [HR.out, HN.out, rd, if_neg (by omega), if_neg HB.out, if_pos B0.out]⟩⟩, by show 0 < 7 - (intOf (.int .i64 (k : Int))).toNat; simp [intOf]; omega⟩
            · have B0 := Lib.hid b0
              by_cases z : b.toNat = 0
              · have s0 : ((b.toNat : Int) == 0) = true := by simp; omega
                have s1 : decide ((1 : Int) < (k : Int) + 1) = false := by simp; omega
                clear b0 z
                by_cases big : 1099511627775 < q
                · have g1 : (1099511627775 : Int) < (q : Int) := by omega
                  have BG := Lib.hid big
                  clear big
                  go_wp2
                  go_step3
                  have := C5.out
                  exact ⟨⟨rfl, Or.inl ⟨rfl, 4, _, _, _, _, _, _, _, _, _, _, _, _, _, _, _, _, _, _, _, _, _, _, _, _, _, _, _, _, _, _, _, _, _, _, _, _, _, _, _, _, rfl, by rw [HR.out, HN.out, rd, if_neg (by omega), if_neg HB.out, if_neg B0.out, if_pos (by rw [HQ.out]; exact Or.inl BG.out)]⟩⟩, by show 0 < 7 - (intOf (.int .i64 (k : Int))).toNat; simp [intOf]; omega⟩
                · have g1 : decide ((1099511627775 : Int) < (q : Int)) = false := by simp; omega
                  have BG := Lib.hid big
                  clear big
                  by_cases gm : most < (q : Int)
                  · have GM := Lib.hid gm
                    go_wp2
                    go_step3
                    have := C5.out
                    exact ⟨⟨rfl, Or.inl ⟨rfl, 4, _, _, _, _, _, _, _, _, _, _, _, _, _, _, _, _, _, _, _, _, _, _, _, _, _, _, _, _, _, _, _, _, _, _, _, _, _, _, _, _, rfl, by rw [HR.out, HN.out, rd, if_neg (by omega), if_neg HB.out, if_neg B0.out, if_pos (by rw [HQ.out]; exact Or.inr GM.out)]⟩⟩, by show 0 < 7 - (intOf (.int .i64 (k : Int))).toNat; simp [intOf]; omega⟩
                  · have g2 : decide (most < (q : Int)) = false := by simp; omega
                    have GM := Lib.hid gm
                    clear gm
                    go_wp2
                    simp only [exitJumps]
                    go_ret3
                    rw [HR.out, HN.out, rd, if_neg (by have := C5.out; omega), if_neg HB.out, if_neg B0.out, HQ.out, if_neg (fun hh => hh.elim BG.out (Int.not_lt.2 GM.out))]
                    exact ⟨rfl, rfl⟩
              · have s0 : ((b.toNat : Int) == 0) = false := by simp; omega
                clear b0 z
                by_cases big : 1099511627775 < q
                · have g1 : (1099511627775 : Int) < (q : Int) := by omega
                  have BG := Lib.hid big
                  clear big
                  go_wp2
                  go_step3
                  have := C5.out
                  exact ⟨⟨rfl, Or.inl ⟨rfl, 4, _, _, _, _, _, _, _, _, _, _, _, _, _, _, _, _, _, _, _, _, _, _, _, _, _, _, _, _, _, _, _, _, _, _, _, _, _, _, _, _, rfl, by rw [HR.out, HN.out, rd, if_neg (by omega), if_neg HB.out, if_neg B0.out, if_pos (by rw [HQ.out]; exact Or.inl BG.out)]⟩⟩, by show 0 < 7 - (intOf (.int .i64 (k : Int))).toNat; simp [intOf]; omega⟩
                · have g1 : decide ((1099511627775 : Int) < (q : Int)) = false := by simp; omega
                  have BG := Lib.hid big
                  clear big
                  by_cases gm : most < (q : Int)
                  · have GM := Lib.hid gm
                    go_wp2
                    go_step3
                    have := C5.out
                    exact ⟨⟨rfl, Or.inl ⟨rfl, 4, _, _, _, _, _, _, _, _, _, _, _, _, _, _, _, _, _, _, _, _, _, _, _, _, _, _, _, _, _, _, _, _, _, _, _, _, _, _, _, _, rfl, by rw [HR.out, HN.out, rd, if_neg (by omega), if_neg HB.out, if_neg B0.out, if_pos (by rw [HQ.out]; exact Or.inr GM.out)]⟩⟩, by show 0 < 7 - (intOf (.int .i64 (k : Int))).toNat; simp [intOf]; omega⟩
                  · have g2 : decide (most < (q : Int)) = false := by simp; omega
                    have GM := Lib.hid gm
                    clear gm
                    go_wp2
                    simp only [exitJumps]
                    go_ret3
                    rw [HR.out, HN.out, rd, if_neg (by have := C5.out; omega), if_neg HB.out, if_neg B0.out, HQ.out, if_neg (fun hh => hh.elim BG.out (Int.not_lt.2 GM.out))]
                    exact ⟨rfl, rfl⟩
end Go.Proofs.YtnmjcpoobabjgaaGreatDoor
/- A number read. -/
namespace Go.Proofs.YtnmjcpoobabjgaaGreatDoor
open Go.RowKit
theorem bs_extract (l : List UInt8) (a b : Nat) : (bs l).extract a b = bs ((l.drop a).take (b - a)) := by
  apply ByteArray.ext
  rw [ByteArray.data_extract]
  show l.toArray.extract a b = ((l.drop a).take (b - a)).toArray
  simp
theorem bs_drop (l : List UInt8) (a : Nat) : (bs l).extract a (bs l).size = bs (l.drop a) := by
  rw [bs_extract, bs_size, List.take_of_length_le (by simp)]
/- a number read: the number, the place, the error -/
def rNum (most : Int) (l : List UInt8) (p : Nat) (e : Int) : Nat × Nat × Int :=
  if e ≠ 0 then (0, p, e) else if (rd most (l.drop p) 0 0).2.2 ≠ 0 then (0, p, (rd most (l.drop p) 0 0).2.2) else ((rd most (l.drop p) 0 0).1, p + (rd most (l.drop p) 0 0).2.1, 0)
theorem rd_size {most : Int} {l : List UInt8} (h : (rd most l 0 0).2.2 = 0) : (rd most l 0 0).2.1 ≤ l.length := by
  obtain ⟨m, rest, h1, h2, h3, h4, h5, h6⟩ := rd_one most l 0 0 (rd most l 0 0).1 (rd most l 0 0).2.1 (by rw [← h])
  rw [h3]
  have := congrArg List.length h1
  rw [List.length_append] at this
  omega
theorem rNum_le (most : Int) (l : List UInt8) (p : Nat) (e : Int) (hp : p ≤ l.length) : (rNum most l p e).2.1 ≤ l.length := by
  unfold rNum
  split
  · exact hp
  · split
    · exact hp
    · rename_i h1 h2
      have h3 := rd_size (Classical.not_not.1 h2)
      rw [List.length_drop] at h3
      show p + _ ≤ _
      omega
theorem keep_ne_at {w : World} {r o : Nat} (v : Value) (q : Nat) : Keep (fun k => k ≠ r) w ((w.drewN q).setCell ⟨r, o, none⟩ v) := ((Keep.refl _ w).drewN q).setCell (fun h => h rfl) v
set_option maxHeartbeats 400000 in
set_option maxRecDepth 100000 in
theorem rnum_any {w : World} {r : Nat} {l p e} (most : Int) (h : Rd w r l p e) (hp : p ≤ l.length) (hl : l.length ≤ 281474976710656) :
    Calls Tryz.prog 61 #[.pointer (some ⟨r, 0, none⟩), .int .i64 most] w fun v w' => v = .returned (.int .i64 (rNum most l p e).1) ∧ Rd w' r l (rNum most l p e).2.1 (rNum most l p e).2.2 ∧ Keep (fun k => k ≠ r) w w' := by
  have HE := err_any h
  by_cases he : e = 0
  · subst he
    obtain ⟨c0, c1, c2, f1, f2⟩ := h.cells
    have HN : Hid (∀ w' : World, Calls Tryz.prog 84 #[.string (bs (l.drop p)), .int .i64 most] w' fun e w'' => e = .returned (.tuple #[.int .i64 (rd most (l.drop p) 0 0).1, .int .i64 (rd most (l.drop p) 0 0).2.1, .int .i64 (rd most (l.drop p) 0 0).2.2]) ∧ w' = w'') := fun w' => num_any (l.drop p) most w' (by rw [List.length_drop]; omega)
    have hs := @rd_size most (l.drop p)
    have hlen : (l.drop p).length = l.length - p := List.length_drop
    have hr : rNum most l p 0 = (if (rd most (l.drop p) 0 0).2.2 ≠ 0 then (0, p, (rd most (l.drop p) 0 0).2.2) else ((rd most (l.drop p) 0 0).1, p + (rd most (l.drop p) 0 0).2.1, 0)) := by
      unfold rNum
      rw [if_neg (by simp)]
    have hx := bs_drop l p
    have hz := bs_size l
    have HR : Hid (∀ q, Rd (w.drewN q) r l p 0) := fun q => h.keep ((Keep.refl (fun _ => True) w).drewN q) trivial
    rw [← hx] at HN
    clear hx
    rw [hr]
    clear hr h
    generalize (rd most (l.drop p) 0 0).1 = n at HN hs ⊢
    generalize (rd most (l.drop p) 0 0).2.1 = size at HN hs ⊢
    generalize (rd most (l.drop p) 0 0).2.2 = er at HN hs ⊢
    generalize bs l = sb at c0 HN hz
    have pz : (p : Int) ≤ (sb.size : Int) := by omega
    by_cases hr : er = 0
    · subst hr
      rw [if_neg (by simp)]
      have hs := hs rfl
      rw [hlen] at hs
      have h9 : (p : Int) + (size : Int) ≤ 9223372036854775807 := by omega
      clear hlen hz hp hl
      go_enter Tryz.func61, Tryz.ntmps61
      go_wp2_with fail
      refine HE.mono ?_
      rintro v w1 ⟨rfl, rfl⟩
      go_wp2
      go_quiet ((go_at_call 84; exact Calls.quiet_of_same ((HN.out _).mono fun e w' h => ⟨h.1, h.2.symm⟩)))
      go_wp2
      go_ret
      exact ⟨rfl, (HR.out _).setAt (p + size), keep_ne_at _ _⟩
    · rw [if_pos hr]
      have hr2 : (er != 0) = true := by simp [hr]
      clear hs hlen hz hp hl hr
      go_enter Tryz.func61, Tryz.ntmps61
      go_wp2_with fail
      refine HE.mono ?_
      rintro v w1 ⟨rfl, rfl⟩
      go_wp2
      go_quiet ((go_at_call 84; exact Calls.quiet_of_same ((HN.out _).mono fun e w' h => ⟨h.1, h.2.symm⟩)))
      go_wp2
      go_ret
      exact ⟨rfl, (HR.out _).setErr er, keep_ne_at _ _⟩
  · have hr : rNum most l p e = (0, p, e) := by unfold rNum; rw [if_pos he]
    have HR : Hid (Rd w r l p e) := h
    rw [hr]
    clear hr h
    go_enter Tryz.func61, Tryz.ntmps61
    go_wp2_with fail
    refine HE.mono ?_
    rintro v w1 ⟨rfl, rfl⟩
    go_wp2
    go_ret
    exact ⟨rfl, HR.out, Keep.refl _ _⟩
end Go.Proofs.YtnmjcpoobabjgaaGreatDoor
