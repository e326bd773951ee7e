import Derived.Test.YtekeaoolodmdaaaMX3
import Derived.Deep.Cut
import Derived.Deep.QuietTactic
import Derived.BigQuiet
import Derived.Deep.RegionLaw
import Derived.Deep.RegionHeld3
import Derived.Lib.AppendStr
import Derived.Deep.AppendLies
import Derived.OwnWalk
import Derived.Maps.AppendAt
import Derived.Laws.MakeOwn
import Derived.StillTailTactics
/- The document's answer: Parts. -/
namespace Go.Proofs.Ytekeaoolodmdaaa.Mt
set_option maxRecDepth 100000
open Go.RowKit
theorem wx_at {r : Nat} (f : Nat → UInt8) (k : Nat) (h : (15 - k) % 4 = r) : wx f (k + 1) = wx f k + rx r (lo (f k)) (hi (f k)) ∧ wy f (k + 1) = wy f k + ry r (lo (f k)) (hi (f k)) := by
  have hr : r % 4 = r := by omega
  constructor
  · show wx f k + rx (15 - k) (lo (f k)) (hi (f k)) = _
    unfold rx
    rw [h, hr]
  · show wy f k + ry (15 - k) (lo (f k)) (hi (f k)) = _
    unfold ry
    rw [h, hr]
set_option maxHeartbeats 2000000 in
theorem parts_any (s : ByteArray) (at_ : Nat) (f : Nat → UInt8) (w : World) (hs : at_ + 16 ≤ s.size) (hs2 : s.size ≤ 1000000) (hf : ∀ i, i < 16 → sAt s (at_ + i) = f i) :
    Calls Try.prog 68 #[.string s, .int .i64 (at_ : Int)] w fun e w' => e = .returned (.tuple #[.int .i64 (wx f 16), .int .i64 (wy f 16)]) ∧ Below w.heap.size w w' := by
  have ix : ∀ i : Nat, i < 16 → ∀ w : World, (Instr.index 9 (.string s) (.int .i64 ((at_ : Int) + (i : Int)))).run Try.prog w = .ok (.int .u8 ((f i).toNat : Int)) w := fun i hi w => by
    rw [← hf i hi, ← Int.natCast_add]; exact idx_str s (at_ + i) (by omega) w
  have IX := Lib.hid ix
  have HS := Lib.hid hs
  clear hf ix hs
  go_enter Try.func68, Try.ntmps68
  go_wp2
  go_loopw [6, 7, 8, 9, 10, 32, 40, 48, 56] (fun x y i _ _ _ _ _ _ wr => ∃ (k : Nat), k ≤ 16 ∧ i = .int .i64 k ∧ x = .int .i64 (wx f k) ∧ y = .int .i64 (wy f k) ∧ Below w.heap.size w wr) (fun _ _ i _ _ _ _ _ _ _ => 16 - (intOf i).toNat)
  case atStart => exact ⟨0, by omega, rfl, rfl, rfl, Below.refl _ _⟩
  case round =>
    obtain ⟨k, hk, rfl, rfl, rfl, hB⟩ := hrel
    by_cases hlt : k < 16
    · have i1 := IX.out k hlt
      have yk : (k : Int) < 16 := by omega
      have HB := Lib.hid hB
      have w0 : IntKind.i64.wrap ((at_ : Int) + (k : Int)) = (at_ : Int) + (k : Int) := IntWalk.i64_in _ (by have := HS.out; omega)
      have w1 : IntKind.i64.wrap (15 - (k : Int)) = 15 - (k : Int) := IntWalk.i64_in _ (by omega)
      have l1 := lo_le (f k)
      have l2 := hi_le (f k)
      have l5 := wx_le f k
      have n0 : (0 : Int) ≤ ((f k).toNat : Int) := by omega
      have m1 : ((f k).toNat : Int).tmod 16 = lo (f k) := by rw [Int.tmod_eq_emod_of_nonneg n0]; unfold lo; omega
      have m2 : ((f k).toNat : Int) % 16 = lo (f k) := by unfold lo; omega
      have m3 : ((f k).toNat : Int).tdiv 16 = hi (f k) := by rw [Int.tdiv_eq_ediv_of_nonneg n0]; unfold hi; omega
      have m4 : ((f k).toNat : Int) / 16 = hi (f k) := by unfold hi; omega
      obtain ⟨r, hr⟩ : ∃ r, (15 - k) % 4 = r := ⟨_, rfl⟩
      have hrs : r = 0 ∨ r = 1 ∨ r = 2 ∨ r = 3 := by omega
      have r1 : (15 - (k : Int)).tmod 4 = (r : Int) := by rw [Int.tmod_eq_emod_of_nonneg (by omega)]; omega
      have r2 : (15 - (k : Int)) % 4 = (r : Int) := by omega
      obtain ⟨e1, e2⟩ := wx_at f k hr
      have E1 := Lib.hid e1
      have E2 := Lib.hid e2
      clear hB hr e1 e2
      go_upto_region 5 with fail
      go_quiet (fail)
      have L := Lib.hid (below_drewN HB.out nq)
      clear HB i1 IX HS w0 w1 m1 m2 m3 m4 n0
      rcases hrs with rfl | rfl | rfl | rfl
      all_goals
        simp only [rx, ry] at E1 E2
        go_wp2
        go_roundw
        case rel => exact ⟨k + 1, by omega, by go_num, by rw [E1.out]; rfl, by rw [E2.out]; rfl, L.out⟩
        case measure => simp [intOf]; omega
    · have e : k = 16 := by omega
      subst e
      go_wp2
      go_ret2
      exact ⟨rfl, hB⟩
end Go.Proofs.Ytekeaoolodmdaaa.Mt
/- Roll, alive. -/
namespace Go.Proofs.Ytekeaoolodmdaaa.Mt
set_option maxRecDepth 100000
open Go.RowKit
set_option maxHeartbeats 1000000 in
theorem roll_any {a b : Nat} {x y : Int} (o n : UInt8) (h : Cx a b x y) (lx : x.natAbs < 1000000) (ly : y.natAbs < 1000000) (w : World) :
    Calls Try.prog 76 #[.complex .f64 a b, .int .u8 (o.toNat : Int), .int .u8 (n.toNat : Int)] w fun e w' => ∃ c d, e = .returned (.complex .f64 c d) ∧ Cx c d (-y - lo o + lo n) (x - hi o + hi n) ∧ Below w.heap.size w w' := by
  have l1 := lo_le o
  have l2 := hi_le o
  have l3 := lo_le n
  have l4 := hi_le n
  have C1 : Hid (∀ W : World, Calls Try.prog 83 #[.complex .f64 a b, .int .i64 1] W fun e w' => ∃ p q, e = .returned (.complex .f64 p q) ∧ Cx p q (-y) x ∧ Below W.heap.size W w') := fun W => turned_any 1 h (by omega) (by omega) (by omega) W
  have C2 : Hid (∀ (c d : Nat) (W : World), Cx c d (lo o) (hi o) → Calls Try.prog 83 #[.complex .f64 c d, .int .i64 16] W fun e w' => ∃ p q, e = .returned (.complex .f64 p q) ∧ Cx p q (lo o) (hi o) ∧ Below W.heap.size W w') := fun c d W h => turned_any 16 h (by omega) (by omega) (by omega) W
  go_enter Try.func76, Try.ntmps76
  go_wp2_with fail
  refine (C1.out _).mono ?_
  rintro e w1 ⟨p, q, rfl, hc, hB⟩
  have HC := Lib.hid hc
  have HB := Lib.hid hB
  clear hc hB C1
  go_wp2_with fail
  refine (byte_any _ _).mono ?_
  rintro e w2 ⟨c, d, rfl, h1, h2, rfl⟩
  have K := Lib.hid (show Cx c d (lo o) (hi o) from ⟨h1, h2⟩)
  clear h1 h2
  go_wp2_with fail
  refine (C2.out _ _ _ K.out).mono ?_
  rintro e w2 ⟨c2, d2, rfl, hc, hB⟩
  obtain ⟨p3, q3, r3, hc3⟩ := csub_run HC.out hc (by omega) (by omega)
  have HC3 := Lib.hid hc3
  have HB2 := Lib.hid (HB.out.trans (hB.mono HB.out.size))
  clear hc hB hc3 HC HB C2 K
  go_wp2_with fail
  refine (byte_any _ _).mono ?_
  rintro e w2 ⟨c4, d4, rfl, h1, h2, rfl⟩
  obtain ⟨p5, q5, r5, hc5⟩ := cadd_run HC3.out (show Cx c4 d4 (lo n) (hi n) from ⟨h1, h2⟩) (by omega) (by omega)
  have HC5 := Lib.hid hc5
  clear h1 h2 hc5 HC3
  go_wp2
  go_ret
  exact ⟨_, _, rfl, HC5.out, HB2.out⟩
end Go.Proofs.Ytekeaoolodmdaaa.Mt
/- All: the numbers of all windows. -/
namespace Go.Proofs.Ytekeaoolodmdaaa.Mt
set_option maxRecDepth 100000
open Go.RowKit
section
variable {P : Program}
/- an append's run as a step of a region that draws -/
theorem step_append_run {ops : Array Oper} {o : Oper} {a : Act} {w : World} {K : Act → World → Prop} {Q : Exit → Act → World → Prop} {E : Prop}
    (hg : o.guard = none) (s x : Operand) (t u : TypeId) (hop : o.op = Op.call { callee := Callee.builtin Builtin.append, args := #[s, x], argTypes := #[t, u] })
    (vs vx v' : Value) (w' : World) (hs : a.eval s = vs) (hx : a.eval x = vx) (hrun : (Builtin.append_ #[t, u] o.type #[vs, vx]).run P w = .ok v' w')
    (hK : K (a.put o.dst v') w') :
    if Region.wanted o (yielded ops a.tmps) = true then Oper.wp P o a w K Q else E := by
  have hw : Region.wanted o (yielded ops a.tmps) = true := by simp [Region.wanted, hg]
  rw [if_pos hw]
  unfold Oper.wp
  simp [execOp, hop, resolve, invoke, builtin, hs, hx, hrun, Result.andThen]
  exact hK
/- the same at the list of a plain region's operations -/
theorem wpList_append_run {ops : Array Oper} {rest : List Oper} {o : Oper} {a : Act} {w : World} {Q : Exit → Act → World → Prop} (hgd : o.guard = none) (s x : Operand) (t u : TypeId)
    (ho : o.op = .call { callee := .builtin .append, args := #[s, x], argTypes := #[t, u] })
    (vs vx v' : Value) (w' : World) (hs : a.eval s = vs) (hx : a.eval x = vx) (hrun : (Builtin.append_ #[t, u] o.type #[vs, vx]).run P w = .ok v' w')
    (h : wpList P ops Q rest (a.put o.dst v') w') : wpList P ops Q (o :: rest) a w := by
  refine wpList_plain hgd fun K hK => ?_
  unfold Oper.wp execOp
  simp only [ho, resolve, invoke, builtin, Sem.run_bind, Sem.run_pure, Result.andThen_ok, List.map_toArray, List.map_cons, List.map_nil, hs, hx, hrun]
  exact hK _ _ h
end
theorem t_cs : Try.prog.underlying 117 = some (.slice 74) := by kernel_rfl
theorem i_c : (Try.prog.info? 74).map (fun i => (i.zero, i.size, i.bytes)) = some (some (.complex .f64 0 0), 1, 16) := by kernel_rfl
/- a text from a place on -/
def sh (f : Nat → UInt8) (j : Nat) : Nat → UInt8 := fun i => f (j + i)
theorem sh_roll (f : Nat → UInt8) (j : Nat) : wx (sh f (j + 1)) 16 = -wy (sh f j) 16 - lo (f j) + lo (f (j + 16)) ∧ wy (sh f (j + 1)) 16 = wx (sh f j) 16 - hi (f j) + hi (f (j + 16)) := by
  have h := wx_roll (sh f j)
  have e := wx_congr (f := sh f (j + 1)) (g := fun i => sh f j (i + 1)) (n := 16) (fun i _ => by unfold sh; congr 1; omega)
  rw [e.1, e.2]
  exact h
/- values that stand for the numbers of a text's first k windows -/
def Nums (f : Nat → UInt8) (k : Nat) (xs : List Value) : Prop := xs.length = k ∧ ∀ j, j < k → ∃ c d, xs[j]? = some (.complex .f64 c d) ∧ Cx c d (wx (sh f j) 16) (wy (sh f j) 16)
theorem Nums.nil (f : Nat → UInt8) : Nums f 0 [] := ⟨rfl, fun j hj => by omega⟩
theorem Nums.snoc {f : Nat → UInt8} {k : Nat} {xs : List Value} (h : Nums f k xs) {c d : Nat} (hc : Cx c d (wx (sh f k) 16) (wy (sh f k) 16)) : Nums f (k + 1) (xs ++ [.complex .f64 c d]) := by
  obtain ⟨h1, h2⟩ := h
  refine ⟨by simp [h1], fun j hj => ?_⟩
  by_cases e : j < k
  · obtain ⟨c', d', g1, g2⟩ := h2 j e
    exact ⟨c', d', by rw [List.getElem?_append_left (by omega)]; exact g1, g2⟩
  · have : j = k := by omega
    subst this
    exact ⟨c, d, by rw [List.getElem?_append_right (by omega), h1, Nat.sub_self]; rfl, hc⟩
theorem app_num {B : Nat} {w0 w : World} {v : Value} {n : Nat} {xs : List Value} (ho : w.ownsRow B 74 1 v n xs) (hB : B ≤ w.heap.size) (hL : Below B w0 w) (c d : Nat) (hn : n + 1 ≤ 100000) :
    ∃ g cap w', (Builtin.append_ #[117, 117] 117 #[v, .slice (some ⟨w.heap.size, 0, none⟩) 1 1]).run Try.prog (w.alloc (.cells #[.complex .f64 c d] 74)) = .ok (.slice (some ⟨g, 0, none⟩) (n + 1) cap) w' ∧
      w'.ownsRow B 74 1 (.slice (some ⟨g, 0, none⟩) (n + 1) cap) (n + 1) (xs ++ [.complex .f64 c d]) ∧ Below B w0 w' := by
  obtain ⟨i0, hi, hz0, hz1, hz2⟩ := info_parts i_c
  obtain ⟨g, cap, w', hr, ho', hg, hat, hlt⟩ := run_append_lies (P := Try.prog) (w.alloc (.cells #[.complex .f64 c d] 74)) 117 117 B 74 i0 (.complex .f64 0 0) 1 16 t_cs hi hz0 hz1 hz2 rfl (by decide) v n xs (ho.alloc _) ⟨w.heap.size, 0, none⟩ 1 1 [.complex .f64 c d] rfl
    (World.news_of_block (heap_alloc_new _ _)) (by intro u hu; simp at hu; subst hu; rfl) (by decide) (by unfold maxLen; omega) (by omega) (by simp; omega) (w.heap.size + 1) (by simp)
  refine ⟨g, cap, w', hr, ho', (hL.alloc hB _).grown hg (by simp; omega) (fun k hk => (ho.lt k hk).1)⟩
theorem make_nums (w : World) (n : Nat) (hn : n ≤ 100000) : ∃ w', (Instr.makeSlice 117 (.int .i64 0) (.int .i64 (n : Int))).run Try.prog w = .ok (.slice (some ⟨w.heap.size, 0, none⟩) 0 n) w' ∧
      w'.ownsRow w.heap.size 74 1 (.slice (some ⟨w.heap.size, 0, none⟩) 0 n) 0 [] ∧ Below w.heap.size w w' := by
  obtain ⟨i0, hi, hz0, hz1, hz2⟩ := info_parts i_c
  obtain ⟨w', h1, h2, h3⟩ := run_make_own (P := Try.prog) w w.heap.size 117 74 i0 (.complex .f64 0 0) 1 t_cs hi hz0 hz1 .i64 .i64 n (by rw [hz2]; omega) (by unfold maxLen; omega) (Nat.le_refl _)
  exact ⟨w', h1, h2, (Below.refl _ _).grown h3 (Nat.le_refl _) (fun k hk => by cases hk)⟩
theorem owns_below {w w' : World} {B e size : Nat} {v : Value} {n : Nat} {xs : List Value} (h : w.ownsRow B e size v n xs) (hb : Below w.heap.size w w') : w'.ownsRow B e size v n xs := by
  refine ⟨h.1, ?_⟩
  rcases h.2 with hn | ⟨g, cap, cur, rfl, hbg, hgg, rest⟩
  · exact .inl hn
  · exact .inr ⟨g, cap, cur, rfl, hbg, by rw [hb.block g (lt_of_block hgg)]; exact hgg, rest⟩
set_option maxHeartbeats 2000000 in
theorem all_few (s : ByteArray) (w : World) (hs : s.size < 16) :
    Calls Try.prog 65 #[.string s] w fun e w' => e = .returned (.slice none 0 0) ∧ w = w' := by
  have b1 : (s.size : Int) < 16 := by omega
  go_enter Try.func65, Try.ntmps65
  go_wp2
  go_ret
  exact ⟨rfl, rfl⟩
set_option maxHeartbeats 2000000 in
theorem all_any (s : ByteArray) (f : Nat → UInt8) (w : World) (hs : 16 ≤ s.size) (hs2 : s.size ≤ 5000) (hf : f = sAt s) :
    Calls Try.prog 65 #[.string s] w fun e w' => ∃ g cap xs, e = .returned (.slice (some ⟨g, 0, none⟩) (s.size - 15) cap) ∧ w'.ownsRow w.heap.size 74 1 (.slice (some ⟨g, 0, none⟩) (s.size - 15) cap) (s.size - 15) xs ∧ Nums f (s.size - 15) xs ∧ Below w.heap.size w w' := by
  obtain ⟨n, hn⟩ : ∃ n, n = s.size - 16 := ⟨_, rfl⟩
  have e15 : s.size - 15 = n + 1 := by omega
  rw [e15]
  have b1 : (16 : Int) ≤ (s.size : Int) := by omega
  have b2 : IntKind.i64.wrap ((s.size : Int) - 16) = (n : Int) := by rw [show (s.size : Int) - 16 = (n : Int) by omega]; exact IntWalk.i64_in _ (by omega)
  have b3 : IntKind.i64.wrap ((n : Int) + 1) = (n : Int) + 1 := IntWalk.i64_in _ (by omega)
  obtain ⟨w1, hm, hO, hL⟩ := make_nums w (n + 1) (by omega)
  rw [show ((n + 1 : Nat) : Int) = (n : Int) + 1 by omega] at hm
  obtain ⟨t, ht⟩ : ∃ t, t = s.extract 0 16 := ⟨_, rfl⟩
  have ts : t.size = 16 := by rw [ht, size_ext s 0 16 (by omega) (by omega)]
  have tf : ∀ j, j < 16 → sAt t j = sh f 0 j := fun j hj => by rw [ht, hf, sAt_ext s 0 16 j (by omega) (by omega) (by omega)]; rfl
  have C1 : Hid (∀ W : World, Calls Try.prog 75 #[.string t] W fun e w' => ∃ c d, e = .returned (.tuple #[.complex .f64 c d, .bool true]) ∧ Cx c d (wx (sh f 0) 16) (wy (sh f 0) 16) ∧ Below W.heap.size W w') := fun W => of_win t (sh f 0) W ts tf
  have IX : Hid (∀ i : Nat, i < s.size → ∀ w : World, (Instr.index 9 (.string s) (.int .i64 (i : Int))).run Try.prog w = .ok (.int .u8 ((f i).toNat : Int)) w) := fun i hi w => by
    rw [hf]; exact idx_str s i hi w
  have et : s.extract 0 16 = t := ht.symm
  have HN := Lib.hid (show s.size = n + 16 ∧ n ≤ 4984 by omega)
  clear hf ht ts tf e15 hs hs2 hn
  go_enter Try.func65, Try.ntmps65
  go_wp2_with fail
  refine (C1.out _).mono ?_
  rintro e w2 ⟨c, d, rfl, hc, B2⟩
  have HL2 := Lib.hid (hL.trans (B2.mono hL.size))
  obtain ⟨g, cap, w3, hap, hO3, hL3⟩ := app_num (owns_below hO B2) HL2.out.size HL2.out c d (by omega)
  have HC := Lib.hid hc
  have HO3 := Lib.hid hO3
  have HL3 := Lib.hid hL3
  clear hc B2 hO hL hO3 hL3 C1
  go_wp2_with (at_builtin; refine wpList_append_run rfl (.tmp 21) (.tmp 23) 117 117 rfl _ _ _ _ rfl rfl hap ?_)
  clear hap
  have HB0 := Lib.hid (Nat.le_refl w.heap.size)
  go_loopw [3, 4, 6] (fun l h i wr => ∃ (q a b g cap : Nat) (xs : List Value), q ≤ n ∧ i = .int .i64 ((q : Int) + 16) ∧ h = .complex .f64 a b ∧ Hid (Cx a b (wx (sh f q) 16) (wy (sh f q) 16)) ∧ l = .slice (some ⟨g, 0, none⟩) (q + 1) cap ∧ Hid (wr.ownsRow w.heap.size 74 1 (.slice (some ⟨g, 0, none⟩) (q + 1) cap) (q + 1) xs) ∧ Hid (Nums f (q + 1) xs) ∧ Hid (Below w.heap.size w wr)) (fun _ _ i _ => n + 16 - (intOf i).toNat)
  case atStart => exact ⟨0, c, d, g, cap, _, by omega, rfl, rfl, HC, rfl, HO3, Lib.hid ((Nums.nil f).snoc HC.out), HL3⟩
  case round =>
    obtain ⟨q, a, b, g2, cap2, xs, hq, rfl, rfl, hC, rfl, hO, hX, hL⟩ := hrel
    clear HC HO3 HL3 HL2
    by_cases hlt : q < n
    · obtain ⟨z0, z1⟩ := HN.out
      have i1 := IX.out q (by omega)
      have i2 := IX.out (q + 16) (by omega)
      rw [show ((q + 16 : Nat) : Int) = (q : Int) + 16 by omega] at i2
      have w1 : IntKind.i64.wrap ((q : Int) + 16 - 16) = (q : Int) := by rw [show (q : Int) + 16 - 16 = (q : Int) by omega]; exact IntWalk.i64_in _ (by omega)
      have w2' : IntKind.i64.wrap (q : Int) = (q : Int) := IntWalk.i64_in _ (by omega)
      have yk : (q : Int) + 16 < (s.size : Int) := by omega
      have l1 := wx_le (sh f q) 16
      have C2 : Hid (∀ W : World, Calls Try.prog 76 #[.complex .f64 a b, .int .u8 ((f q).toNat : Int), .int .u8 ((f (q + 16)).toNat : Int)] W fun e w' => ∃ c d, e = .returned (.complex .f64 c d) ∧ Cx c d (wx (sh f (q + 1)) 16) (wy (sh f (q + 1)) 16) ∧ Below W.heap.size W w') := fun W => by
        have h := roll_any (f q) (f (q + 16)) hC.out (by omega) (by omega) W
        rw [(sh_roll f q).1, (sh_roll f q).2]
        exact h
      clear l1 z0 z1
      go_upto_region 9 with fail
      have L0 : Below w.heap.size w wr.drew := hL.out.drew
      have O0 : wr.drew.ownsRow w.heap.size 74 1 (.slice (some ⟨g2, 0, none⟩) (q + 1) cap2) (q + 1) xs := owns_below hO.out (Below.refl _ _).drew
      go_region_held3 (fun w' => Below w.heap.size w w' ∧ w'.ownsRow w.heap.size 74 1 (.slice (some ⟨g2, 0, none⟩) (q + 1) cap2) (q + 1) xs) (first | exact ⟨L0, O0⟩ | assumption) (first | (go_at_call 76; refine (C2.out _).mono ?_; rintro e w5 ⟨c5, d5, rfl, hc5, B5⟩; have L5 := And.intro (L0.trans (B5.mono L0.size)) (owns_below O0 B5)))
      all_goals
        obtain ⟨g3, cap3, w6, hap, hO6, hL6⟩ := app_num L5.2 L5.1.size L5.1 c5 d5 (by have := HN.out; omega)
        have H1 := Lib.hid hc5
        have H2 := Lib.hid hO6
        have H3 := Lib.hid hL6
        clear hc5 hO6 hL6 L5 B5 C2 L0 O0 i1 i2 w1 w2' hL hO
        have w3 : IntKind.i64.wrap ((q : Int) + 16 + 1) = (q : Int) + 16 + 1 := IntWalk.i64_in _ (by have := HN.out; omega)
        go_wp2_with (at_builtin; refine wpList_append_run rfl (.tmp 40) (.tmp 42) 117 117 rfl _ _ _ _ rfl rfl hap ?_)
        clear hap
        go_roundw
        case rel => exact ⟨q + 1, c5, d5, g3, cap3, _, by omega, by go_num, rfl, H1, rfl, H2, Lib.hid (hX.out.snoc H1.out), H3⟩
        case measure => simp [intOf]; omega
    · have e : q = n := by omega
      subst e
      have yk : (s.size : Int) ≤ (q : Int) + 16 := by have := HN.out; omega
      go_wp2
      go_ret
      exact ⟨_, _, _, rfl, hO.out, hX.out, hL.out⟩
end Go.Proofs.Ytekeaoolodmdaaa.Mt
