import Derived.Test.YtekeaoolodmdaaaPam
import Derived.Test.YtekeaoolodmdaaaProg
import Derived.Lib.AppendStr
import Derived.Deep.AppendLies
import Derived.OwnWalk
import Derived.Maps.AppendAt
/- What a writer and a reader hold, and which blocks stay as they are. -/
namespace Go.Proofs.Ytekeaoolodmdaaa
open Go.RowKit
/- the blocks of which K speaks stay as they are -/
structure Keep (K : Nat → Prop) (w w' : World) : Prop where
  os : w'.os = w.os
  tape : w'.tape = w.tape
  output : w'.output = w.output
  size : w.heap.size ≤ w'.heap.size
  block : ∀ k, K k → k < w.heap.size → w'.heap[k]? = w.heap[k]?
theorem Keep.refl (K : Nat → Prop) (w : World) : Keep K w w := ⟨rfl, rfl, rfl, Nat.le_refl _, fun _ _ _ => rfl⟩
theorem Keep.trans {K : Nat → Prop} {a b c : World} (h : Keep K a b) (k : Keep K b c) : Keep K a c :=
  ⟨k.os.trans h.os, k.tape.trans h.tape, k.output.trans h.output, Nat.le_trans h.size k.size, fun i hi hl => (k.block i hi (Nat.lt_of_lt_of_le hl h.size)).trans (h.block i hi hl)⟩
theorem Keep.mono {K K' : Nat → Prop} {w w' : World} (h : Keep K w w') (hK : ∀ k, K' k → k < w.heap.size → K k) : Keep K' w w' :=
  ⟨h.os, h.tape, h.output, h.size, fun k hk hl => h.block k (hK k hk hl) hl⟩
theorem Keep.alloc {K : Nat → Prop} {a w : World} (h : Keep K a w) (o : Obj) : Keep K a (w.alloc o) :=
  h.trans ⟨rfl, rfl, rfl, by simp, fun k _ hl => Below.heap_alloc _ _ _ hl⟩
theorem Keep.drew {K : Nat → Prop} {a w : World} (h : Keep K a w) : Keep K a w.drew := ⟨h.os, h.tape, h.output, h.size, h.block⟩
theorem Keep.drewN {K : Nat → Prop} {a w : World} (h : Keep K a w) (n : Nat) : Keep K a (w.drewN n) := by
  refine h.trans ⟨rfl, rfl, rfl, Nat.le_refl _, fun _ _ _ => rfl⟩
theorem Keep.setCell {K : Nat → Prop} {a w : World} (h : Keep K a w) {p : Addr} (hp : ¬ K p.block) (u : Value) : Keep K a (w.setCell p u) :=
  h.trans ⟨rfl, rfl, rfl, by simp [World.setCell], fun k hk _ => Below.heap_setCell _ _ _ _ (fun e => hp (e ▸ hk))⟩
theorem Keep.setRow {K : Nat → Prop} {a w : World} (h : Keep K a w) {g : Nat} (hp : ¬ K g) (cs : Array Value) : Keep K a (w.setRow g cs) :=
  h.trans ⟨rfl, rfl, rfl, by simp, fun k hk _ => setRow_other w g k cs (fun e => hp (e ▸ hk))⟩
theorem Keep.grown {K : Nat → Prop} {a w w' : World} {row : Option Nat} (h : Keep K a w) (hg : w.grownBy w' row) (hr : ∀ k, row = some k → ¬ K k) : Keep K a w' :=
  h.trans ⟨hg.os, hg.tape, hg.output, hg.size, fun k hk hl => hg.block k hl (fun e => hr k e.symm hk)⟩
theorem Keep.below {B : Nat} {w w' : World} (h : Keep (· < B) w w') (hB : B ≤ w.heap.size) : Below B w w' :=
  ⟨h.os, h.tape, h.output, h.size, fun k hk => h.block k hk (Nat.lt_of_lt_of_le hk hB)⟩
theorem Keep.of_below {K : Nat → Prop} {B : Nat} {w w' : World} (h : Below B w w') (hK : ∀ k, K k → k < w.heap.size → k < B) : Keep K w w' :=
  ⟨h.os, h.tape, h.output, h.size, fun k hk hl => h.block k (hK k hk hl)⟩
theorem Keep.all {K : Nat → Prop} {w w' : World} (h : Below w.heap.size w w') : Keep K w w' := Keep.of_below h fun _ _ h => h
theorem Keep.at {K : Nat → Prop} {w w' : World} (h : Keep K w w') {k : Nat} {o : Obj} (hk : K k) (ho : w.heap[k]? = some o) : w'.heap[k]? = some o := by
  rw [h.block k hk (lt_of_block ho)]; exact ho
theorem Keep.blk {K : Nat → Prop} {w w' : World} {b E n f} (h : Keep K w w') (hk : K b) (hB : Blk w b E n f) : Blk w' b E n f := h.at hk hB
theorem Keep.cell {K : Nat → Prop} {w w' : World} (h : Keep K w w') {a : Addr} {v : Value} (hk : K a.block) (hc : w.cell? a = some v) : w'.cell? a = some v := by
  rw [World.cell?_of_block (w := w) (h.block a.block hk (block_lt_of_cell hc))]; exact hc
/- a list of bytes as a text, and as cells -/
def bs (l : List UInt8) : ByteArray := ⟨l.toArray⟩
theorem bs_size (l : List UInt8) : (bs l).size = l.length := by show l.toArray.size = _; simp
theorem bs_of (s : ByteArray) : bs s.data.toList = s := by apply ByteArray.ext; show s.data.toList.toArray = s.data; simp
theorem bs_inj {a b : List UInt8} (h : bs a = bs b) : a = b := by
  have e := congrArg (fun x : ByteArray => x.data.toList) h
  simpa [bs] using e
theorem bs_append (a b : List UInt8) : bs a ++ bs b = bs (a ++ b) := by
  unfold bs
  rw [ByteArray.mk_append_mk]
theorem len_of (s : ByteArray) : s.data.toList.length = s.size := by simp
def cb (b : UInt8) : Value := .int .u8 b.toNat
def cbs (l : List UInt8) : List Value := l.map cb
theorem cbs_length (l : List UInt8) : (cbs l).length = l.length := by simp [cbs]
theorem cbs_append (a b : List UInt8) : cbs (a ++ b) = cbs a ++ cbs b := by simp [cbs]
theorem strCells_bs (l : List UInt8) : Lib.strCells (bs l) = cbs l := by simp [Lib.strCells, bs, cbs]; intro b _; rfl
theorem cbs_one (l : List UInt8) : ∀ u ∈ cbs l, u.oneCell' = true := by
  intro u hu
  simp only [cbs, List.mem_map] at hu
  obtain ⟨b, _, rfl⟩ := hu
  rfl
/- the writer in block h has written l; K's blocks are there and not its own -/
def Wr (K : Nat → Prop) (w : World) (h : Nat) (l : List UInt8) : Prop :=
  (∀ k, K k → k < w.heap.size) ∧ ∃ v, w.heap[h]? = some (.cells #[v] 91 (0, 0)) ∧ w.ownsRow 0 5 1 v l.length (cbs l) ∧ ¬ K h ∧ ∀ k, v.ownBlock = some k → ¬ K k
theorem Wr.mono {K K' : Nat → Prop} {w : World} {h : Nat} {l : List UInt8} (hw : Wr K w h l) (hK : ∀ k, K' k → K k) : Wr K' w h l := by
  obtain ⟨hb, v, h1, h2, h3, h4⟩ := hw
  exact ⟨fun k hk => hb k (hK k hk), v, h1, h2, fun e => h3 (hK _ e), fun k hk e => h4 k hk (hK _ e)⟩
theorem Wr.keep {K J : Nat → Prop} {w w' : World} {h : Nat} {l : List UInt8} (hw : Wr K w h l) (hk : Keep J w w') (hJ : ∀ k, ¬ K k → k < w.heap.size → J k) : Wr K w' h l := by
  obtain ⟨hb, v, h1, h2, h3, h4⟩ := hw
  refine ⟨fun k hk' => Nat.lt_of_lt_of_le (hb k hk') hk.size, v, hk.at (hJ _ h3 (lt_of_block h1)) h1, ⟨h2.1, ?_⟩, h3, h4⟩
  rcases h2.2 with hn | ⟨g, cap, cur, rfl, hb, hgg, rest⟩
  · exact .inl hn
  · exact .inr ⟨g, cap, cur, rfl, hb, hk.at (hJ _ (h4 g rfl) (lt_of_block hgg)) hgg, rest⟩
theorem Wr.all {K : Nat → Prop} {w w' : World} {h : Nat} {l : List UInt8} (hw : Wr K w h l) (hb : Below w.heap.size w w') : Wr K w' h l :=
  hw.keep (J := fun _ => True) (Keep.all hb) fun _ _ _ => trivial
theorem Wr.alloc {K : Nat → Prop} {w : World} {h : Nat} {l : List UInt8} (hw : Wr K w h l) (o : Obj) : Wr K (w.alloc o) h l :=
  hw.all ((Below.refl _ _).alloc (Nat.le_refl _) o)
theorem Wr.drew {K : Nat → Prop} {w : World} {h : Nat} {l : List UInt8} (hw : Wr K w h l) : Wr K w.drew h l := hw.all (Below.refl _ _).drew
theorem Wr.lt {K : Nat → Prop} {w : World} {h : Nat} {l : List UInt8} (hw : Wr K w h l) : h < w.heap.size := by
  obtain ⟨_, v, h1, _⟩ := hw
  exact lt_of_block h1
/- a new block becomes one of K's -/
theorem Wr.add {K : Nat → Prop} {w : World} {h : Nat} {l : List UInt8} (hw : Wr K w h l) (o : Obj) : Wr (fun k => K k ∨ k = w.heap.size) (w.alloc o) h l := by
  obtain ⟨hb, v, h1, h2, h3, h4⟩ := hw.alloc o
  have hl := hw.lt
  obtain ⟨_, v0, q1, q2, _, _⟩ := hw
  rw [heap_alloc_old _ _ hl, q1] at h1
  obtain rfl : v0 = v := by simpa using h1
  refine ⟨fun k hk => ?_, v0, by rw [heap_alloc_old _ _ hl]; exact q1, h2, fun e => ?_, fun k hk e => ?_⟩
  · rcases hk with hk | rfl
    · exact hb k hk
    · simp
  · rcases e with e | e
    · exact h3 e
    · omega
  · rcases e with e | e
    · exact h4 k hk e
    · have := (q2.lt k hk).2
      omega
theorem Wr.new {K : Nat → Prop} {w : World} (hK : ∀ k, K k → k < w.heap.size) : Wr K (w.alloc (.cells #[.slice none 0 0] 91)) w.heap.size [] :=
  ⟨fun k hk => Nat.lt_of_lt_of_le (hK k hk) (by simp), _, heap_alloc_new _ _, World.ownsRow_nil _ _ _ _, fun e => Nat.lt_irrefl _ (hK _ e), fun k hk => by simp [Value.ownBlock] at hk⟩
/- the reader in block r reads l, stands at 'at', and has the error e -/
def Rd (w : World) (r : Nat) (l : List UInt8) (p : Nat) (e : Int) : Prop := w.heap[r]? = some (.cells #[.string (bs l), .int .i64 p, .int .i64 e] 133 (0, 0))
theorem Rd.keep {K : Nat → Prop} {w w' : World} {r : Nat} {l p e} (h : Rd w r l p e) (hk : Keep K w w') (hr : K r) : Rd w' r l p e := hk.at hr h
theorem Rd.lt {w : World} {r : Nat} {l p e} (h : Rd w r l p e) : r < w.heap.size := lt_of_block h
theorem Rd.cells {w : World} {r : Nat} {l p e} (h : Rd w r l p e) : w.cell? ⟨r, 0, none⟩ = some (.string (bs l)) ∧ w.cell? ⟨r, 1, none⟩ = some (.int .i64 p) ∧ w.cell? ⟨r, 2, none⟩ = some (.int .i64 e) ∧
    w.frozen? ⟨r, 1, none⟩ = false ∧ w.frozen? ⟨r, 2, none⟩ = false :=
  ⟨cell_of_row _ _ _ _ _ _ h, cell_of_row _ _ _ _ _ _ h, cell_of_row _ _ _ _ _ _ h, frozen_of_row _ _ _ _ _ h, frozen_of_row _ _ _ _ _ h⟩
theorem Rd.setAt {w : World} {r : Nat} {l p e} (h : Rd w r l p e) (q : Nat) : Rd (w.setCell ⟨r, 1, none⟩ (.int .i64 q)) r l q e := by
  unfold Rd at *
  rw [heap_setCell_same w r 1 _ 133 _ h]; rfl
theorem Rd.setErr {w : World} {r : Nat} {l p e} (h : Rd w r l p e) (q : Int) : Rd (w.setCell ⟨r, 2, none⟩ (.int .i64 q)) r l p q := by
  unfold Rd at *
  rw [heap_setCell_same w r 2 _ 133 _ h]; rfl
theorem t25 : Try.prog.underlying 89 = some (.slice 5) := by kernel_rfl
theorem t9 : Try.prog.underlying 9 = some .string := by kernel_rfl
theorem t5 : Try.prog.underlying 5 = some (.int .u8) := by kernel_rfl
theorem i5 : (Try.prog.info? 5).map (fun i => (i.zero, i.size, i.bytes)) = some (some (.int .u8 0), 1, 1) := by kernel_rfl
theorem app_str_at (w : World) (v : Value) (n : Nat) (xs : List Value) (hown : w.ownsRow 0 5 1 v n xs) (s : ByteArray) (hb : n + s.size ≤ 140737488355328) :
    ∃ v' w', (Builtin.append_ #[89, 9] 89 #[v, .string s]).run Try.prog w = .ok v' w' ∧ w'.ownsRow 0 5 1 v' (n + s.size) (xs ++ Lib.strCells s) ∧ w.grownBy w' v.ownBlock ∧ (v'.ownBlock = v.ownBlock ∨ v'.ownBlock = some w.heap.size) := by
  obtain ⟨i0, hi, hz0, hz1, hz2⟩ := info_parts i5
  have h63 : n + s.size ≤ maxLen := by unfold maxLen; omega
  obtain ⟨v', w', hr, h2, h3, h4⟩ := Lib.run_append_own_string (P := Try.prog) w 0 89 9 89 5 i0 t25 t9 hi hz0 hz1 hz2 v n xs hown s h63 hb (Nat.zero_le _)
  refine ⟨v', w', hr, h2, h3, ?_⟩
  rcases hown.2 with ⟨rfl, rfl⟩ | ⟨g, cap, cur, rfl, hbg, hg, hnc, hcm, hcs, htake⟩
  · by_cases hm : s.size = 0
    · rw [h4.2 ⟨rfl, hm⟩]; exact .inl rfl
    · have e := run_append_nil_string (P := Try.prog) w 89 9 89 5 i0 (.int .u8 0) t25 t9 hi hz0 s (by omega) (by omega) (by rw [hz2]; omega)
      rw [e] at hr
      cases hr
      exact .inr rfl
  · have hxl : xs.length = n := by simpa using hown.1
    by_cases hroom : n + s.size ≤ cap
    · have hcs' : cur.size = cap := by simpa using hcs
      have e := Lib.run_append_room_string (P := Try.prog) w 89 9 89 5 i0 t25 t9 hi hz1 g n cap cur hg s hroom (by omega)
      rw [e] at hr
      cases hr
      exact .inl rfl
    · have e := Lib.run_append_grow_string (P := Try.prog) w 89 9 89 5 i0 (.int .u8 0) t25 t9 hi hz0 ⟨g, 0, none⟩ n cap xs (by rw [hz1]; simpa using hxl) (hown.cells (g := g) rfl) s (by omega) (by omega) (by rw [hz2]; exact growslice_fits (by omega) (by omega))
      rw [e] at hr
      cases hr
      exact .inr rfl
/- the writer behind an append whose value was stored -/
theorem app_end {K : Nat → Prop} {w w' : World} {h : Nat} {v v' : Value} {l s : List UInt8} (hb : ∀ k, K k → k < w.heap.size) (h1 : w.heap[h]? = some (.cells #[v] 91 (0, 0))) (hown : w.ownsRow 0 5 1 v l.length (cbs l)) (h3 : ¬ K h) (h4 : ∀ k, v.ownBlock = some k → ¬ K k)
    (ho : w'.ownsRow 0 5 1 v' (l ++ s).length (cbs (l ++ s))) (hg : w.grownBy w' v.ownBlock) (hat : v'.ownBlock = v.ownBlock ∨ v'.ownBlock = some w.heap.size) :
    w'.heap[h]? = some (.cells #[v] 91 (0, 0)) ∧ Wr K (w'.setCell ⟨h, 0, none⟩ v') h (l ++ s) ∧ Keep K w (w'.setCell ⟨h, 0, none⟩ v') := by
  have hne : ∀ k, v.ownBlock = some k → k ≠ h := by
    intro k hk e
    subst e
    rcases hown.2 with ⟨rfl, _⟩ | ⟨g, cap, cur, rfl, hbg, hg', _⟩
    · simp [Value.ownBlock] at hk
    · simp [Value.ownBlock] at hk
      subst hk
      rw [h1] at hg'
      simp at hg'
  have hne2 : some h ≠ v.ownBlock := fun e => hne h e.symm rfl
  have H1 : w'.heap[h]? = some (.cells #[v] 91 (0, 0)) := by rw [hg.block h (lt_of_block h1) hne2]; exact h1
  have hlt := lt_of_block h1
  have hnew : ∀ k, v'.ownBlock = some k → ¬ K k ∧ k ≠ h := by
    intro k hk
    rcases hat with e | e
    · rw [e] at hk; exact ⟨h4 k hk, hne k hk⟩
    · rw [e] at hk
      cases hk
      exact ⟨fun e => Nat.lt_irrefl _ (hb _ e), by omega⟩
  have K1 : Keep K w w' := (Keep.refl K w).grown hg h4
  refine ⟨H1, ⟨fun k hk => Nat.lt_of_lt_of_le (hb k hk) (by simp; exact hg.size), v', one_setCell H1, ?_, h3, fun k hk => (hnew k hk).1⟩, K1.setCell h3 _⟩
  exact ownsRow_setCell_other ho (fun e => (hnew h e).2 rfl) _
theorem owns_shape {w : World} {base : Nat} {e : TypeId} {size : Nat} {v : Value} {n : Nat} {xs : List Value} (h : w.ownsRow base e size v n xs) : ∃ ad cap, v = .slice ad n cap := by
  rcases h.2 with ⟨rfl, rfl⟩ | ⟨g, cap, cur, rfl, _⟩
  · exact ⟨none, 0, rfl⟩
  · exact ⟨_, cap, rfl⟩
theorem app_str {K : Nat → Prop} {w : World} {h : Nat} {l : List UInt8} (hw : Wr K w h l) (s : List UInt8) (hlen : l.length + s.length ≤ 140737488355328) :
    ∃ v ad n cap w', w.heap[h]? = some (.cells #[v] 91 (0, 0)) ∧ (Builtin.append_ #[89, 9] 89 #[v, .string (bs s)]).run Try.prog w = .ok (.slice ad n cap) w' ∧ w'.heap[h]? = some (.cells #[v] 91 (0, 0)) ∧
      Wr K (w'.setCell ⟨h, 0, none⟩ (.slice ad n cap)) h (l ++ s) ∧ Keep K w (w'.setCell ⟨h, 0, none⟩ (.slice ad n cap)) := by
  obtain ⟨hb, v, h1, h2, h3, h4⟩ := hw
  obtain ⟨v', w', hr, ho, hg, hat⟩ := app_str_at w v l.length (cbs l) h2 (bs s) (by rw [bs_size]; exact hlen)
  rw [bs_size, strCells_bs, ← cbs_append, ← List.length_append] at ho
  have E := app_end hb h1 h2 h3 h4 ho hg hat
  obtain ⟨ad, cap, rfl⟩ := owns_shape ho
  exact ⟨v, ad, _, cap, w', h1, hr, E⟩
/- the same, of the cells of a block -/
theorem app_blk {K : Nat → Prop} {w : World} {h : Nat} {l : List UInt8} (hw : Wr K w h l) (s : List UInt8) (b t m c : Nat) (fr : Nat × Nat) (hlen : l.length + s.length ≤ 140737488355328) (hB : w.heap[b]? = some (.cells (cbs s).toArray t fr)) (hm : m = s.length) :
    ∃ v ad n cap w', w.heap[h]? = some (.cells #[v] 91 (0, 0)) ∧ (Builtin.append_ #[89, 89] 89 #[v, .slice (some ⟨b, 0, none⟩) m c]).run Try.prog w = .ok (.slice ad n cap) w' ∧ w'.heap[h]? = some (.cells #[v] 91 (0, 0)) ∧
      Wr K (w'.setCell ⟨h, 0, none⟩ (.slice ad n cap)) h (l ++ s) ∧ Keep K w (w'.setCell ⟨h, 0, none⟩ (.slice ad n cap)) := by
  subst hm
  obtain ⟨hb, v, h1, h2, h3, h4⟩ := hw
  obtain ⟨i0, hi, hz0, hz1, hz2⟩ := info_parts i5
  have h63 : l.length + s.length ≤ maxLen := by unfold maxLen; omega
  obtain ⟨v', w', hr, ho, hg, -, hat⟩ := run_append_own_at (P := Try.prog) w 0 89 89 5 i0 (.int .u8 0) 1 1 t25 hi hz0 hz1 hz2 rfl (by decide) v l.length (cbs l) h2 ⟨b, 0, none⟩ s.length c (cbs s) (by rw [cbs_length, Nat.mul_one])
    (fun j u hj => World.news_of_block hB j u (by simpa using hj)) (cbs_one s) h63 (by omega) (Nat.zero_le _)
  rw [← cbs_append, ← List.length_append] at ho
  have E := app_end hb h1 h2 h3 h4 ho hg hat
  obtain ⟨ad, cap, rfl⟩ := owns_shape ho
  exact ⟨v, ad, _, cap, w', h1, hr, E⟩
section
variable {P : Program}
/- an append's run as a step of a region that draws -/
theorem step_append_run {ops : Array Oper} {o : Oper} {a : Act} {w : World} {K : Act → World → Prop} {Q : Exit → Act → World → Prop} {E : Prop}
    (hg : o.guard = none) (s x : Operand) (t u : TypeId) (hop : o.op = Op.call { callee := Callee.builtin Builtin.append, args := #[s, x], argTypes := #[t, u] })
    (vs vx v' : Value) (w' : World) (hs : a.eval s = vs) (hx : a.eval x = vx) (hrun : (Builtin.append_ #[t, u] o.type #[vs, vx]).run P w = .ok v' w')
    (hK : K (a.put o.dst v') w') :
    if Region.wanted o (yielded ops a.tmps) = true then Oper.wp P o a w K Q else E := by
  have hw : Region.wanted o (yielded ops a.tmps) = true := by simp [Region.wanted, hg]
  rw [if_pos hw]
  unfold Oper.wp
  simp [execOp, hop, resolve, invoke, builtin, hs, hx, hrun, Result.andThen]
  exact hK
/- the same at the list of a plain region's operations -/
theorem wpList_append_run {ops : Array Oper} {rest : List Oper} {o : Oper} {a : Act} {w : World} {Q : Exit → Act → World → Prop} (hgd : o.guard = none) (s x : Operand) (t u : TypeId)
    (ho : o.op = .call { callee := .builtin .append, args := #[s, x], argTypes := #[t, u] })
    (vs vx v' : Value) (w' : World) (hs : a.eval s = vs) (hx : a.eval x = vx) (hrun : (Builtin.append_ #[t, u] o.type #[vs, vx]).run P w = .ok v' w')
    (h : wpList P ops Q rest (a.put o.dst v') w') : wpList P ops Q (o :: rest) a w := by
  refine wpList_plain hgd fun K hK => ?_
  unfold Oper.wp execOp
  simp only [ho, resolve, invoke, builtin, Sem.run_bind, Sem.run_pure, Result.andThen_ok, List.map_toArray, List.map_cons, List.map_nil, hs, hx, hrun]
  exact hK _ _ h
end
end Go.Proofs.Ytekeaoolodmdaaa
