import Derived.Test.YtekeaoolodmdaaaMXk
import Derived.Test.YtekeaoolodmdaaaMXm
import Derived.Laws.OwnMore
import Derived.Deep.AppendLies
/- An index in the heap: the map of the places, the struct. -/
namespace Go.Proofs.Ytekeaoolodmdaaa.Mt
set_option maxRecDepth 100000
open Go.RowKit
def iv (l : List Nat) : List Value := l.map fun (j : Nat) => .int .i64 (j : Int)
theorem iv_len (l : List Nat) : (iv l).length = l.length := by simp [iv]
theorem iv_snoc (l : List Nat) (k : Nat) : iv (l ++ [k]) = iv l ++ [.int .i64 (k : Int)] := by simp [iv]
def hs (l : List ((Int × Int) × Value)) (x : Int × Int) : Option Value := (has l x 0).map (·.2)
theorem has_put (l : List ((Int × Int) × Value)) (x y : Int × Int) (v : Value) (i : Nat) : (has (put l x v) y i).map (·.2) = if y = x then some v else (has l y i).map (·.2) := by
  induction l generalizing i with
  | nil =>
    unfold put has
    by_cases e : y = x
    · rw [if_pos e, if_pos e.symm]; rfl
    · rw [if_neg e, if_neg (fun h => e h.symm)]; rfl
  | cons p r ih =>
    unfold put
    by_cases c : p.1 = x
    · rw [if_pos c]
      unfold has
      by_cases e : y = x
      · rw [if_pos e, if_pos e.symm]; rfl
      · rw [if_neg e, if_neg (fun h => e h.symm), if_neg (by rw [c]; exact fun h => e h.symm)]
    · rw [if_neg c]
      unfold has
      by_cases e : p.1 = y
      · rw [if_pos e, if_pos e, if_neg (by rw [← e]; exact c)]
      · rw [if_neg e, if_neg e]; exact ih (i + 1)
theorem hs_put (l : List ((Int × Int) × Value)) (x y : Int × Int) (v : Value) : hs (put l x v) y = if y = x then some v else hs l y := has_put l x y v 0
/- block m is a map that has, at each number x, the places F x (none where there are none); each entry's list lies in a block of its own, from block b on -/
def Mp (w : World) (b m : Nat) (F : Int × Int → List Nat) : Prop :=
  ∃ es cl L, w.heap[m]? = some (.map es cl) ∧ Ents es.toList L ∧ (∀ x v, hs L x = some v → F x ≠ [] ∧ w.ownsRow b 3 1 v (F x).length (iv (F x))) ∧ (∀ x, hs L x = none → F x = []) ∧
    ∀ x y u v, hs L x = some u → hs L y = some v → u.ownBlock = v.ownBlock → x = y
theorem Mp.made (w : World) (b : Nat) : Mp (w.alloc (.map #[] 0)) b w.heap.size (fun _ => []) :=
  ⟨#[], 0, [], (MapKept.heap_alloc w _).1, .nil, fun x v h => by simp [hs, has] at h, fun x _ => rfl, fun x y u v h => by simp [hs, has] at h⟩
theorem Mp.lt {w : World} {b m : Nat} {F : Int × Int → List Nat} (h : Mp w b m F) : m < w.heap.size := by
  obtain ⟨es, cl, L, hb, _⟩ := h
  exact lt_of_block hb
theorem Mp.below {w w' : World} {b m : Nat} {F : Int × Int → List Nat} (h : Mp w b m F) {n : Nat} (hn : w.heap.size ≤ n) (hb : Below n w w') : Mp w' b m F := by
  have hlt := h.lt
  obtain ⟨es, cl, L, h1, h2, h3, h4, h5⟩ := h
  exact ⟨es, cl, L, by rw [hb.block m (by omega)]; exact h1, h2, fun x v hx => ⟨(h3 x v hx).1, owns_below (h3 x v hx).2 (hb.mono hn)⟩, h4, h5⟩
theorem Mp.kept {w w' : World} {b m : Nat} {F : Int × Int → List Nat} (h : Mp w b m F) (hg : w.grownBy w' none) : Mp w' b m F := by
  have hlt := h.lt
  obtain ⟨es, cl, L, h1, h2, h3, h4, h5⟩ := h
  exact ⟨es, cl, L, by rw [hg.block m hlt (by simp)]; exact h1, h2, fun x v hx => ⟨(h3 x v hx).1, by
    have o := (h3 x v hx).2
    refine o.kept hg ?_
    cases e : v.ownBlock with
    | none => exact .inl rfl
    | some k => exact .inr (by simp)⟩, h4, h5⟩
theorem Mp.congr {w : World} {b m : Nat} {F G : Int × Int → List Nat} (h : Mp w b m F) (e : ∀ x, F x = G x) : Mp w b m G := by
  have : F = G := funext e
  exact this ▸ h
theorem tmap : Try.prog.underlying 116 = some (.map 74 30) := by kernel_rfl
theorem tc128 : Try.prog.underlying 74 = some (.complex .f64) := by kernel_rfl
theorem zints (w : World) : (zeroValue 30).run Try.prog w = .ok (.slice none 0 0) w := by kernel_rfl
theorem tints : Try.prog.underlying 30 = some (.slice 3) := by kernel_rfl
theorem i_int : (Try.prog.info? 3).map (fun i => (i.zero, i.size, i.bytes)) = some (some (.int .i64 0), 1, 8) := by kernel_rfl
/- what is read of it -/
theorem Mp.look {w : World} {b m : Nat} {F : Int × Int → List Nat} (h : Mp w b m F) {c d : Nat} {x : Int × Int} (hc : Cx c d x.1 x.2) :
    ∃ v, (∀ q, (Instr.lookup 116 (.map (some m)) (.complex .f64 c d) false).run Try.prog (w.drewN q) = .ok v (w.drewN q)) ∧ w.ownsRow b 3 1 v (F x).length (iv (F x)) ∧ (F x = [] → v = .slice none 0 0) := by
  obtain ⟨es, cl, L, h1, h2, h3, h4, h5⟩ := h
  have hr := fun q => run_lookup_cx (P := Try.prog) (w.drewN q) 116 74 30 tmap tc128 (zints _) (m := m) (es := es) (cl := cl) h1 h2 hc
  cases e : has L x 0 with
  | none =>
    have e0 := h4 x (by simp [hs, e])
    refine ⟨.slice none 0 0, fun q => by rw [hr q, e], ?_, fun _ => rfl⟩
    rw [e0]
    exact World.ownsRow_nil w b _ 1
  | some r =>
    obtain ⟨j, v⟩ := r
    exact ⟨v, fun q => by rw [hr q, e], (h3 x v (by simp [hs, e])).2, fun hn => absurd hn (h3 x v (by simp [hs, e])).1⟩
/- a place more -/
theorem Mp.more {w w0 : World} {b m : Nat} {F : Int × Int → List Nat} (h : Mp w b m F) (hb : b ≤ w.heap.size) {B : Nat} (hB : Below B w0 w) (hBb : B ≤ b) (hBm : B ≤ m) {c d : Nat} {x : Int × Int} (hc : Cx c d x.1 x.2) (k : Nat) (hl : (F x).length < 8) :
    ∃ v, (Instr.lookup 116 (.map (some m)) (.complex .f64 c d) false).run Try.prog w = .ok v w ∧ w.ownsRow b 3 1 v (F x).length (iv (F x)) ∧
      ∃ v' w2 w3, (Builtin.append_ #[30, 30] 30 #[v, .slice (some ⟨w.heap.size, 0, none⟩) 1 1]).run Try.prog (w.alloc (.cells #[.int .i64 (k : Int)] 3)) = .ok v' w2 ∧
        (Instr.mapUpdate 116 (.map (some m)) (.complex .f64 c d) v').run Try.prog w2 = .ok () w3 ∧ Mp w3 b m (fun y => if y = x then F x ++ [k] else F y) ∧ Below B w0 w3 ∧ w.heap.size ≤ w3.heap.size ∧ ∀ i, i < b → i ≠ m → w3.heap[i]? = w.heap[i]? := by
  have hm := h.lt
  obtain ⟨v, hlook, hown, _⟩ := h.look hc
  refine ⟨v, hlook 0, hown, ?_⟩
  obtain ⟨i0, hi, hz0, hz1, hz2⟩ := info_parts i_int
  obtain ⟨g, cap, w2, hr, ho, hg, hat, hlt⟩ := run_append_lies (P := Try.prog) (w.alloc (.cells #[.int .i64 (k : Int)] 3)) 30 30 b 3 i0 (.int .i64 0) 1 8 tints hi hz0 hz1 hz2 rfl (by decide) v (F x).length (iv (F x)) (hown.alloc _) ⟨w.heap.size, 0, none⟩ 1 1 [.int .i64 (k : Int)] rfl
    (World.news_of_block (heap_alloc_new _ _)) (by intro u hu; simp at hu; subst hu; rfl) (by decide) (by unfold maxLen; omega) (by omega) (by simp; omega) (w.heap.size + 1) (by simp)
  rw [← iv_snoc] at ho
  have hall : w.grownBy w2 v.ownBlock := (World.grownBy_alloc w _ _).trans hg
  have hkeep := hown.lt
  obtain ⟨es, cl, L, h1, h2, h3, h4, h5⟩ := h
  -- the map's block is no slice's
  have hvm : v.ownBlock ≠ some m := by
    intro e
    rcases hown.2 with ⟨rfl, _⟩ | ⟨g', cap', cur, rfl, _, hg', _⟩
    · cases e
    · simp [Value.ownBlock] at e
      subst e
      rw [h1] at hg'
      cases hg'
  have h1' : w2.heap[m]? = some (.map es cl) := by rw [hall.block m hm (fun e => hvm e.symm)]; exact h1
  obtain ⟨w3, es', cl', hrun, hm3, hents, hg3⟩ := run_update_cx (P := Try.prog) w2 116 74 30 tmap tc128 h1' h2 hc (.slice (some ⟨g, 0, none⟩) ((F x).length + 1) cap)
  have hlook0 := hlook 0
  -- v is the entry's value, or nil
  have hv : hs L x = some v ∨ (hs L x = none ∧ v = .slice none 0 0) := by
    have hr := run_lookup_cx (P := Try.prog) w 116 74 30 tmap tc128 (zints _) (m := m) (es := es) (cl := cl) h1 h2 hc
    rw [show w.drewN 0 = w from rfl, hr] at hlook0
    unfold hs
    cases e : has L x 0 with
    | none => rw [e] at hlook0; injection hlook0 with e1; exact .inr ⟨rfl, e1.symm⟩
    | some r => obtain ⟨j, u⟩ := r; rw [e] at hlook0; injection hlook0 with e1; exact .inl (by rw [← e1]; rfl)
  have hgm : g ≠ m := by
    intro e
    subst e
    rcases ho.2 with ⟨e, _⟩ | ⟨g', cap', cur, e, _, hg', _⟩
    · cases e
    · injection e with e1 e2 e3
      injection e1 with e1
      injection e1 with e1
      subst e1
      rw [h1'] at hg'
      cases hg'
  refine ⟨_, w2, w3, hr, hrun, ⟨es', cl', _, hm3, hents, ?_, ?_, ?_⟩, ?_, Nat.le_trans hall.size hg3.size, fun i hi hne => ?_⟩
  · intro y u hy
    rw [hs_put] at hy
    by_cases e : y = x
    · rw [if_pos e] at hy
      injection hy with hy
      subst hy
      simp only [if_pos e]
      refine ⟨by simp, ?_⟩
      rw [List.length_append]
      exact ho.kept hg3 (.inr (by simp [Value.ownBlock, hgm]))
    · rw [if_neg e] at hy
      simp only [if_neg e]
      obtain ⟨z1, z2⟩ := h3 y u hy
      refine ⟨z1, ?_⟩
      have n1 : u.ownBlock = none ∨ u.ownBlock ≠ v.ownBlock := by
        rcases hv with hv | ⟨_, rfl⟩
        · exact .inr fun e' => e (h5 y x u v hy hv e')
        · cases e' : u.ownBlock with
          | none => exact .inl rfl
          | some k => exact .inr (by simp [Value.ownBlock])
      have z3 := z2.kept hall n1
      refine z3.kept hg3 (.inr ?_)
      intro e'
      rcases z3.2 with ⟨rfl, _⟩ | ⟨g', cap', cur, rfl, _, hg', _⟩
      · cases e'
      · simp [Value.ownBlock] at e'
        subst e'
        rw [h1'] at hg'
        cases hg'
  · intro y hy
    rw [hs_put] at hy
    by_cases e : y = x
    · rw [if_pos e] at hy; cases hy
    · rw [if_neg e] at hy
      simp only [if_neg e]
      exact h4 y hy
  · intro y z u u' hy hz he
    rw [hs_put] at hy hz
    -- g is no other entry's block
    have hother : ∀ y u, ¬ y = x → hs L y = some u → u.ownBlock ≠ some g := by
      intro y u e hy e'
      have z2 := (h3 y u hy).2
      rcases hat with hat | hat
      · rcases hv with hv | ⟨_, rfl⟩
        · exact e (h5 y x u v hy hv (by rw [e', hat]))
        · cases hat
      · have := z2.lt g e'
        omega
    by_cases e1 : y = x
    · by_cases e2 : z = x
      · rw [e1, e2]
      · rw [if_pos e1] at hy
        rw [if_neg e2] at hz
        injection hy with hy
        subst hy
        exact absurd he.symm (hother z u' e2 hz)
    · by_cases e2 : z = x
      · rw [if_neg e1] at hy
        rw [if_pos e2] at hz
        injection hz with hz
        subst hz
        exact absurd he (hother y u e1 hy)
      · rw [if_neg e1] at hy
        rw [if_neg e2] at hz
        exact h5 y z u u' hy hz he
  · have b1 : Below B w0 w2 := hB.grown hall (by omega) (fun k hk => by have := hkeep k hk; omega)
    have z := hall.size
    exact b1.grown hg3 (by omega) (fun k hk => by injection hk with hk; omega)
  · have z := hall.size
    rw [hg3.block i (by omega) (fun e => by injection e with e; exact hne e)]
    exact hall.block i (by omega) (fun e => by have := hkeep i e.symm; omega)
/- the index: its base, its map -/
def Ix (w : World) (b p : Nat) (s : ByteArray) : Prop :=
  ∃ m, w.heap[p]? = some (.cells #[.string s, .map (some m)] 120 (0, 0)) ∧ Mp w b m (fun x => pl (sAt s) x (s.size - 15))
theorem Ix.below {w w' : World} {b p : Nat} {s : ByteArray} (h : Ix w b p s) {n : Nat} (hn : w.heap.size ≤ n) (hb : Below n w w') : Ix w' b p s := by
  obtain ⟨m, h1, h2⟩ := h
  have := lt_of_block h1
  exact ⟨m, by rw [hb.block p (by omega)]; exact h1, h2.below hn hb⟩
theorem Ix.cells {w : World} {b p : Nat} {s : ByteArray} (h : Ix w b p s) : ∃ m, w.cell? ⟨p, 0, none⟩ = some (.string s) ∧ w.cell? ⟨p, 1, none⟩ = some (.map (some m)) ∧ Mp w b m (fun x => pl (sAt s) x (s.size - 15)) := by
  obtain ⟨m, h1, h2⟩ := h
  exact ⟨m, by rw [cell_of_row w p 0 _ 120 _ h1]; rfl, by rw [cell_of_row w p 1 _ 120 _ h1]; rfl, h2⟩
end Go.Proofs.Ytekeaoolodmdaaa.Mt
