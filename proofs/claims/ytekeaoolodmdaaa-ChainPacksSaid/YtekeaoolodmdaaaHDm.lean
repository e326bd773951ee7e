import Derived.Test.YtekeaoolodmdaaaHC
import Derived.Test.YtekeaoolodmdaaaV4
import Derived.Maps.OwnOps
import Derived.StillTailTactics
/- A part's depth; what is told of one part. -/
namespace Go.Proofs.Ytekeaoolodmdaaa
set_option maxRecDepth 100000
open Go.RowKit
def depthR (l : List Pt) (at_ : Int) : Int × Int := if (wayR l at_).2 = 0 then (((wayR l at_).1.length : Int) - 1, 0) else (0, (wayR l at_).2)
theorem depth_any {l : List Pt} {v : Value} (at_ : Int) {w : World} (hv : RowP w v l) (hs : l.length ≤ 100000) :
    Calls Try.prog 10 #[v, .int .i64 at_] w fun e w' => e = .returned (.tuple #[.int .i64 (depthR l at_).1, .int .i64 (depthR l at_).2]) ∧ Below w.heap.size w w' := by
  have C1 : Hid (∀ W, RowP W v l → Calls Try.prog 22 #[v, .int .i64 at_] W fun e w' => ∃ u, e = .returned (.tuple #[u, .int .i64 (wayR l at_).2]) ∧ OwnN w' W.heap.size u (wayR l at_).1 ∧ Below W.heap.size W w') := fun W h => along_any at_ h hs
  have HV := Lib.hid hv
  obtain ⟨way, er, hR⟩ : ∃ way er, wayR l at_ = (way, er) := ⟨_, _, rfl⟩
  have hl : er = 0 → way.length ≤ 5 := fun h => by
    have := (wayR_way (l := l) (at_ := at_) (by rw [hR]; exact h)).2.2.2.2.2
    rw [hR] at this
    exact this
  unfold depthR
  rw [hR] at C1 ⊢
  dsimp only at C1 ⊢
  clear hR hv hs
  by_cases c : er = 0
  · subst c
    have h5 := hl rfl
    rw [if_pos rfl]
    dsimp only
    have w5 : IntKind.i64.wrap ((way.length : Int) - 1) = (way.length : Int) - 1 := IntWalk.i64_in _ (by omega)
    obtain ⟨n, hn⟩ : ∃ n, n = way.length := ⟨_, rfl⟩
    rw [← hn] at w5 ⊢
    have h5' : n ≤ 5 := by omega
    have HN := Lib.hid hn
    clear hl h5 hn
    go_enter Try.func10, Try.ntmps10
    go_wp2_with fail
    refine (C1.out _ HV.out).mono ?_
    rintro e w1 ⟨u, rfl, hO, B1⟩
    obtain ⟨ao, n', co, hn', rfl⟩ : ∃ ao n co, n = way.length ∧ u = .slice ao n co := by
      obtain ⟨x1, x2, x3⟩ := RowG.len hO.row
      exact ⟨_, _, _, rfl, x3⟩
    rw [← HN.out] at hn'
    subst hn'
    have L1 := Lib.hid B1
    clear B1 hO C1 HV
    go_wp2
    go_ret2
    exact ⟨rfl, L1.out⟩
  · rw [if_neg c]
    dsimp only
    clear hl
    go_enter Try.func10, Try.ntmps10
    go_wp2_with fail
    refine (C1.out _ HV.out).mono ?_
    rintro e w1 ⟨u, rfl, hO, B1⟩
    have L1 := Lib.hid B1
    clear B1 hO C1 HV
    go_wp2
    go_ret2
    exact ⟨rfl, L1.out⟩
/- a text and an error, as told -/
def tv (r : List UInt8 × Int) : Value := .agg #[.string (bs r.1), .int .i64 r.2]
theorem aRes_len (B d : List UInt8) : (aRes B d).1.length ≤ 4099 := by
  unfold aRes
  cases hd : dRead d with
  | none => simp
  | some x =>
    obtain ⟨b, l⟩ := x
    obtain ⟨hb, hg, hs⟩ := dRead_good hd
    dsimp only
    by_cases c : B.length = b
    · rw [if_pos c]
      subst c
      show (tzs B l).length ≤ 4099
      rw [tzs_len hg rfl]
      exact hs
    · rw [if_neg c]; simp
theorem tlq_len (x : Pt) (B : List UInt8) : (tlq x B).1.length ≤ 4099 := by
  unfold tlq
  split
  · exact aRes_len _ _
  · split
    · simp
    · dsimp only; omega
theorem txq_len (l : List Pt) (k : Nat) : (txq l k).1.length ≤ 4099 := by
  rw [txq]
  split
  · split
    · split
      · exact tlq_len _ _
      · simp
    · simp
  · exact tlq_len _ _
theorem two_set {w : World} {p : Nat} {E : TypeId} {x y : Value} (h : w.heap[p]? = some (.cells #[x, y] E (0, 0))) (a b : Value) : ((w.setCell ⟨p, 0, none⟩ a).setCell ⟨p, 1, none⟩ b).heap[p]? = some (.cells #[a, b] E (0, 0)) := by
  rw [heap_setCell_same _ p 1 _ E _ (heap_setCell_same w p 0 _ E _ h)]; rfl
theorem tell_any (x : Pt) (B : List UInt8) (w : World) (hB : B.length ≤ 4099) (ht : x.t.length ≤ 1000000) :
    Calls Try.prog 31 #[.agg #[.bool x.d, .int .i64 x.b, .string (bs x.t)], .string (bs B)] w fun e w' => e = .returned (tv (tlq x B)) ∧ Below w.heap.size w w' := by
  obtain ⟨d, b, t⟩ := x
  unfold tv tlq
  dsimp only at ht ⊢
  have hz := bs_size t
  cases d with
  | true =>
    rw [if_pos rfl]
    have C1 : Hid (∀ W, _) := Lib.hid (fun W => apply_any B t W (by omega) (by omega))
    generalize bs (aRes B t).1 = sr at *
    generalize (aRes B t).2 = er at *
    generalize bs B = sB at *
    generalize bs t = st at *
    clear hB ht hz
    go_enter Try.func31, Try.ntmps31
    go_wp2_with fail
    refine (C1.out _).mono ?_
    rintro e w1 ⟨rfl, B1⟩
    have hk : w1.heap[w.heap.size + 1]? = some (.cells #[.string ⟨#[]⟩, .int .i64 0] 65 (0, 0)) := by
      rw [B1.block (w.heap.size + 1) (by simp)]
      have := heap_alloc_new (w.alloc (.cells #[.bool true, .int .i64 b, .string st] 50)) (.cells #[.string ⟨#[]⟩, .int .i64 0] 65)
      simpa using this
    have c0 := cell_of_row _ _ 0 _ _ _ hk
    have c1 := cell_of_row _ _ 1 _ _ _ hk
    have f0 := frozen_of_row _ _ 0 _ _ hk
    have f1 := frozen_of_row _ _ 1 _ _ hk
    have HK := Lib.hid hk
    have L1 : Hid (Below w.heap.size w w1) := (((Below.refl w.heap.size w).alloc (Nat.le_refl _) _).alloc (by simp) _).trans (B1.mono (by simp; omega))
    clear B1 C1 hk
    go_wp2
    exact bodyPost_ret (v := .agg #[.string sr, .int .i64 er]) (results_cell_row rfl _ _ _ _ _ _ _ rfl (two_set HK.out _ _) Try.underlying65 rfl (by kernel_rfl)) rfl ⟨rfl, (L1.out.setCell (by simp) _).setCell (by simp) _⟩
  | false =>
    rw [if_neg (by decide)]
    have hT : ((w.alloc (.cells #[.bool false, .int .i64 b, .string (bs t)] 50)).alloc (.cells #[.string ⟨#[]⟩, .int .i64 0] 65)).heap[w.heap.size + 1]? = some (.cells #[.string ⟨#[]⟩, .int .i64 0] 65 (0, 0)) := by
      have := heap_alloc_new (w.alloc (.cells #[.bool false, .int .i64 b, .string (bs t)] 50)) (.cells #[.string ⟨#[]⟩, .int .i64 0] 65)
      simpa using this
    by_cases c : 4099 < t.length
    · rw [if_pos c]
      have e0 : bs [] = ⟨#[]⟩ := rfl
      dsimp only
      rw [e0]
      have t1 : (4099 : Int) < ((bs t).size : Int) := by omega
      have c0 := cell_of_row _ _ 0 _ _ _ hT
      have c1 := cell_of_row _ _ 1 _ _ _ hT
      have f0 := frozen_of_row _ _ 0 _ _ hT
      have f1 := frozen_of_row _ _ 1 _ _ hT
      have HK := Lib.hid hT
      have L1 : Hid (∀ o1 o2 : Obj, Below w.heap.size w ((w.alloc o1).alloc o2)) := fun o1 o2 => (((Below.refl w.heap.size w).alloc (Nat.le_refl _) _).alloc (by simp) _)
      clear hT
      generalize bs t = st at *
      clear hB ht hz c
      go_enter Try.func31, Try.ntmps31
      go_wp2
      exact bodyPost_ret (v := .agg #[.string ⟨#[]⟩, .int .i64 19]) (results_cell_row rfl _ _ (w.heap.size + 1) 65 #[.string ⟨#[]⟩, .int .i64 19] (0, 0) _ rfl (by
        have := heap_alloc_new (w.alloc (.cells #[.bool false, .int .i64 b, .string st] 50)) (.cells #[.string ⟨#[]⟩, .int .i64 19] 65)
        simpa using this) Try.underlying65 rfl (by kernel_rfl)) rfl ⟨rfl, L1.out _ _⟩
    · rw [if_neg c]
      have t1 : ((bs t).size : Int) ≤ 4099 := by omega
      have C1 : Hid (∀ W, _) := Lib.hid (clone_any (bs t) (hs := by omega))
      have HK := Lib.hid hT
      generalize bs t = st at *
      clear hB ht hz c hT
      go_enter Try.func31, Try.ntmps31
      go_wp2_with fail
      refine (C1.out _).mono ?_
      rintro e w1 ⟨rfl, B1⟩
      have hk : w1.heap[w.heap.size + 1]? = some (.cells #[.string ⟨#[]⟩, .int .i64 0] 65 (0, 0)) := by
        rw [B1.block (w.heap.size + 1) (by simp)]
        exact HK.out
      have c0 := cell_of_row _ _ 0 _ _ _ hk
      have c1 := cell_of_row _ _ 1 _ _ _ hk
      have f0 := frozen_of_row _ _ 0 _ _ hk
      have f1 := frozen_of_row _ _ 1 _ _ hk
      have HK1 := Lib.hid hk
      have L1 : Hid (Below w.heap.size w w1) := (((Below.refl w.heap.size w).alloc (Nat.le_refl _) _).alloc (by simp) _).trans (B1.mono (by simp; omega))
      clear B1 C1 hk HK
      go_wp2
      exact bodyPost_ret (v := .agg #[.string st, .int .i64 0]) (results_cell_row rfl _ _ _ _ _ _ _ rfl (two_set HK1.out _ _) Try.underlying65 rfl (by kernel_rfl)) rfl ⟨rfl, (L1.out.setCell (by simp) _).setCell (by simp) _⟩
end Go.Proofs.Ytekeaoolodmdaaa
/- A map of what was told, by places; what stands in the room of a teller. -/
namespace Go.Proofs.Ytekeaoolodmdaaa
set_option maxRecDepth 100000
open Go.RowKit Go.ChangeMaps
theorem tmap_is : Try.prog.underlying 63 = some (.map 3 65) := by kernel_rfl
theorem tint_is : Try.prog.underlying 3 = some (.int .i64) := by kernel_rfl
theorem ztold (w : World) : (zeroValue 65).run Try.prog w = .ok (.agg #[.string ⟨#[]⟩, .int .i64 0]) w := by kernel_rfl
/- block m is a map of what is told of some places -/
def Fm (w : World) (m : Nat) (l : List Pt) : Prop := ∃ es cl, w.heap[m]? = some (.map es cl) ∧ ∀ e ∈ es.toList, ∃ j : Nat, e.key = .int .i64 (j : Int) ∧ e.val = tv (txq l j)
theorem Fm.made (w : World) (l : List Pt) : Fm (w.alloc (.map #[] 0)) w.heap.size l := ⟨#[], 0, (MapKept.heap_alloc w _).1, fun e he => by simp at he⟩
theorem Fm.lt {w : World} {m : Nat} {l : List Pt} (h : Fm w m l) : m < w.heap.size := by
  obtain ⟨es, cl, hb, _⟩ := h
  exact lt_of_block hb
theorem Fm.at_ {w w' : World} {m : Nat} {l : List Pt} (h : Fm w m l) (hb : w'.heap[m]? = w.heap[m]?) : Fm w' m l := by
  obtain ⟨es, cl, h1, h2⟩ := h
  exact ⟨es, cl, by rw [hb]; exact h1, h2⟩
/- what is asked of it; where it isn't there it can be put -/
theorem Fm.look {w : World} {m : Nat} {l : List Pt} (h : Fm w m l) (k : Nat) :
    (∀ W : World, W.heap[m]? = w.heap[m]? → (Instr.lookup 63 (.map (some m)) (.int .i64 (k : Int)) true).run Try.prog W = .ok (.tuple #[tv (txq l k), .bool true]) W) ∨
    ((∀ W : World, W.heap[m]? = w.heap[m]? → (Instr.lookup 63 (.map (some m)) (.int .i64 (k : Int)) true).run Try.prog W = .ok (.tuple #[.agg #[.string ⟨#[]⟩, .int .i64 0], .bool false]) W) ∧
     (∀ W : World, W.heap[m]? = w.heap[m]? → ∃ W', (Instr.mapUpdate 63 (.map (some m)) (.int .i64 (k : Int)) (tv (txq l k))).run Try.prog W = .ok () W' ∧ Fm W' m l ∧ Keep (fun j => j ≠ m) W W')) := by
  obtain ⟨es, cl, h1, h2⟩ := h
  have hkey : MapKept.IsKey (.int .i64) (.int .i64 (k : Int)) := rfl
  have hks : ∀ x ∈ es.toList, MapKept.IsKey (.int .i64) x.key := fun x hx => by
    obtain ⟨j, e, _⟩ := h2 x hx
    rw [e]; rfl
  rcases MapKept.findNow_spec hkey es.toList 0 hks with ⟨g1, g2⟩ | ⟨j, e0, g1, g2, g3⟩
  · refine Or.inr ⟨fun W hW => ?_, fun W hW => ?_⟩
    · rw [h1] at hW
      simp [Instr.lookup, run_underlying tmap_is, MapKept.run_getObj_map hW, MapKept.run_checkKey tint_is hkey, MapKept.run_findKey tint_is g1, ztold, Result.andThen]
    · rw [h1] at hW
      refine ⟨setBlock W m (.map (es.push { key := .int .i64 (k : Int), val := tv (txq l k), born := cl }) (cl + 1)), ?_, ⟨es.push { key := .int .i64 (k : Int), val := tv (txq l k), born := cl }, cl + 1, heap_setBlock_same hW _, fun x hx => ?_⟩, ⟨rfl, rfl, rfl, by simp [setBlock], fun i hi _ => heap_setBlock_other hW _ hi⟩⟩
      · simp [Instr.mapUpdate, run_underlying tmap_is, MapKept.run_getObj_map hW, MapKept.run_checkKey tint_is hkey, MapKept.run_findKey tint_is g1, MapKept.run_setObj_map _ hW, Result.andThen, setBlock]
      · rw [Array.toList_push, List.mem_append, List.mem_singleton] at hx
        rcases hx with hx | rfl
        · exact h2 x hx
        · exact ⟨k, rfl, rfl⟩
  · refine Or.inl fun W hW => ?_
    rw [h1] at hW
    obtain ⟨j', e1, e2⟩ := h2 e0 (List.mem_of_getElem? g2)
    have e3 : j' = k := by
      rw [g3] at e1
      simp only [Value.int.injEq, true_and] at e1
      omega
    subst e3
    simp [Instr.lookup, run_underlying tmap_is, MapKept.run_getObj_map hW, MapKept.run_checkKey tint_is hkey, MapKept.run_findKey tint_is g1, e2, Result.andThen]
section
variable {P : Program}
theorem ex_lookup2 {o : Oper} {a : Act} {w : World} (t : TypeId) (m x : Operand) (ho : o.op = .lookup t m x true) (vm vx v : Value) (hm : a.eval m = vm) (hx : a.eval x = vx) (hr : (Instr.lookup t vm vx true).run P w = .ok v w) : (execOp a.eval o).run P w = .ok (.value v) w := by
  unfold execOp
  simp only [ho, hm, hx, Sem.run_bind, hr, Result.andThen_ok]
  rfl
theorem ex_update {o : Oper} {a : Act} {w w' : World} (t : TypeId) (m x y : Operand) (ho : o.op = .mapUpdate t m x y) (vm vx vy : Value) (hm : a.eval m = vm) (hx : a.eval x = vx) (hy : a.eval y = vy) (hr : (Instr.mapUpdate t vm vx vy).run P w = .ok () w') : (execOp a.eval o).run P w = .ok .skip w' := by
  unfold execOp
  simp only [ho, hm, hx, hy, Sem.run_bind, hr, Result.andThen_ok]
  rfl
theorem step_unit {ops : Array Oper} {o : Oper} {a : Act} {w : World} {K : Act → World → Prop} {Q : Exit → Act → World → Prop} {E : Prop} (hg : o.guard = none) (w' : World) (hr : (execOp a.eval o).run P w = .ok .skip w')
    (hK : K (a.put o.dst undef) w') : if Region.wanted o (yielded ops a.tmps) = true then Oper.wp P o a w K Q else E := by
  have hw : Region.wanted o (yielded ops a.tmps) = true := by simp [Region.wanted, hg]
  rw [if_pos hw]
  unfold Oper.wp
  rw [hr]
  exact hK
end
/- a teller's room: the list's parts lie below; the variable that holds the list, the one that holds the map, the map -/
structure TS (w0 w : World) (pl pf m : Nat) (v : Value) (l : List Pt) : Prop where
  row : RowP w0 v l
  all : Below w0.heap.size w0 w
  il : w0.heap.size ≤ pl
  if_ : w0.heap.size ≤ pf
  im : w0.heap.size ≤ m
  bl : w.heap[pl]? = some (.cells #[v] 22 (0, 0))
  bf : w.heap[pf]? = some (.cells #[.map (some m)] 63 (0, 0))
  fm : Fm w m l
theorem TS.below {w0 w w' : World} {pl pf m : Nat} {v : Value} {l : List Pt} (h : TS w0 w pl pf m v l) (hb : Below w.heap.size w w') : TS w0 w' pl pf m v l :=
  ⟨h.row, h.all.trans (hb.mono h.all.size), h.il, h.if_, h.im, by rw [hb.block pl (lt_of_block h.bl)]; exact h.bl, by rw [hb.block pf (lt_of_block h.bf)]; exact h.bf, h.fm.at_ (hb.block m h.fm.lt)⟩
theorem TS.ne {w0 w : World} {pl pf m : Nat} {v : Value} {l : List Pt} (h : TS w0 w pl pf m v l) : pl ≠ m ∧ pf ≠ m := by
  obtain ⟨es, cl, hm, _⟩ := h.fm
  refine ⟨fun e => ?_, fun e => ?_⟩
  · subst e; have := h.bl; rw [hm] at this; cases this
  · subst e; have := h.bf; rw [hm] at this; cases this
theorem TS.keep {w0 w w' : World} {pl pf m : Nat} {v : Value} {l : List Pt} (h : TS w0 w pl pf m v l) (hk : Keep (fun j => j ≠ m) w w') (hf : Fm w' m l) : TS w0 w' pl pf m v l := by
  obtain ⟨n1, n2⟩ := h.ne
  exact ⟨h.row, h.all.trans ⟨hk.os, hk.tape, hk.output, hk.size, fun k hkB => hk.block k (by have := h.im; show k ≠ m; omega) (Nat.lt_of_lt_of_le hkB h.all.size)⟩, h.il, h.if_, h.im, hk.at n1 h.bl, hk.at n2 h.bf, hf⟩
/- another block's cell is written -/
theorem TS.set {w0 w : World} {pl pf m : Nat} {v : Value} {l : List Pt} (h : TS w0 w pl pf m v l) {p : Addr} (h0 : w0.heap.size ≤ p.block) (h1 : p.block ≠ pl) (h2 : p.block ≠ pf) (h3 : p.block ≠ m) (u : Value) : TS w0 (w.setCell p u) pl pf m v l :=
  ⟨h.row, h.all.setCell h0 u, h.il, h.if_, h.im, by rw [heap_setCell_other w p pl u (fun e => h1 e.symm)]; exact h.bl, by rw [heap_setCell_other w p pf u (fun e => h2 e.symm)]; exact h.bf, h.fm.at_ (heap_setCell_other w p m u (fun e => h3 e.symm))⟩
end Go.Proofs.Ytekeaoolodmdaaa
