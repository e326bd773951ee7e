import Derived.Test.YtnmjcpoobabjgaaGreatDoorO3m
import Derived.Maps.OwnOps
import Derived.Test.YtnmjcpoobabjgaaGreatDoorEDm
import Derived.Test.YtnmjcpoobabjgaaGreatDoorO8m
import Derived.Test.YtnmjcpoobabjgaaGreatDoorFfm
import Derived.Deep.Cut
import Derived.Test.YtnmjcpoobabjgaaGreatDoorO12
import Derived.StillTailTactics
set_option linter.unusedVariables false
set_option linter.unusedSimpArgs false
/- A map whose keys are ids. -/
namespace Go.Proofs.YtnmjcpoobabjgaaGreatDoor
set_option maxRecDepth 100000
open Go.RowKit Go.ChangeMaps Classical
def kv (f : Nat → UInt8) : Value := .agg (arr 32 (bv f))
theorem idmap_is : Tryz.prog.underlying 84 = some (.map 37 3) := by kernel_rfl
theorem u8_size : (Tryz.prog.info? 5).map (·.size) = some 1 := by kernel_rfl
theorem equal_id (f g : Nat → UInt8) (w : World) : (Op.equal 37 (kv f) (kv g)).run Tryz.prog w = .ok (decide (same32 f g)) w := by
  have := run_equalIn_arr8 w 9998 37 5 32 f g ty30 t5 u8_size
  refine Eq.trans this ?_
  congr 2
theorem check_u8 (em : Bool) (n : Nat) (f : Nat → UInt8) (j : Nat) (w : World) : (Instr.checkKey em (n + 1) 5 (bv f j)).run Tryz.prog w = .ok () w := by
  simp [Instr.checkKey, run_underlying t5, bv, cb]
theorem check_idN (em : Bool) (n : Nat) (f : Nat → UInt8) (w : World) : (Instr.checkKey em (n + 1 + 1) 37 (.agg (arr 32 (bv f)))).run Tryz.prog w = .ok () w := by
  have hagg : (isAgg 5).run Tryz.prog w = .ok false w := by
    unfold isAgg
    rw [Sem.run_bind, run_underlying t5 w]; rfl
  have hp : ∀ (j : Nat), j < 32 → (part 5 (arr 32 (bv f)) j).run Tryz.prog w = .ok (bv f j) w := fun j hj => by
    unfold part
    rw [Sem.run_bind, hagg]
    simp [arr_get 32 (bv f) j hj]
  have hz : (sizeOf 5).run Tryz.prog w = .ok 1 w := by
    cases hq : Tryz.prog.info? 5 with
    | none => have := u8_size; rw [hq] at this; cases this
    | some i => have h1 : i.size = 1 := by have := u8_size; rw [hq] at this; simpa using this
                simp [sizeOf, typeInfo, hq, h1]
  have hc := fun j => check_u8 em n f j w
  rw [Instr.checkKey.eq_2]
  generalize hCK : Instr.checkKey em (n + 1) = CK
  rw [hCK] at hc
  have key : ∀ l : List Nat, (∀ j, j ∈ l → j < 32) → (forIn l PUnit.unit (fun i (_ : PUnit) => do
            let s ← sizeOf 5
            let a ← part 5 (arr 32 (bv f)) (i * s)
            CK 5 a
            pure (ForInStep.yield PUnit.unit))).run Tryz.prog w = .ok PUnit.unit w := by
    intro l
    induction l with
    | nil => intro _; simp
    | cons j l ih =>
      intro hl
      simp only [List.forIn_cons, Sem.run_bind, hz, Nat.mul_one, hp j (hl j (by simp)), Result.andThen_ok, hc j, Sem.run_pure]
      exact ih fun k hk => hl k (by simp [hk])
  have hl := key (List.range' 0 [:32].size) (fun j hj => by simp [Std.Legacy.Range.size] at hj; omega)
  simp only [Sem.run_bind, run_underlying ty30, Result.andThen_ok, Std.Legacy.Range.forIn_eq_forIn_range']
  simp only [hl, Result.andThen_ok, Sem.run_pure]
theorem check_id (em : Bool) (f : Nat → UInt8) (w : World) : (Instr.checkKey em 10000 37 (kv f)).run Tryz.prog w = .ok () w := check_idN em 9998 f w
/- entries, by keys; the value of each is its place -/
inductive Kes : List MapEntry → List (Nat → UInt8) → Nat → Prop
  | nil {i : Nat} : Kes [] [] i
  | cons {e : MapEntry} {g : Nat → UInt8} {es : List MapEntry} {L : List (Nat → UInt8)} {i : Nat} : e.key = kv g → e.val = .int .i64 (i : Int) → Kes es L (i + 1) → Kes (e :: es) (g :: L) i
/- the first place of an id, from i on -/
noncomputable def idx (f : Nat → UInt8) : List (Nat → UInt8) → Nat → Option Nat
  | [], _ => none
  | g :: r, i => if same32 f g then some i else idx f r (i + 1)
theorem find_id (f : Nat → UInt8) (w : World) {es : List MapEntry} {L : List (Nat → UInt8)} {i : Nat} (h : Kes es L i) :
    (Instr.findAsking 37 (kv f) es i).run Tryz.prog w = .ok ((idx f L i).map fun j => (j, .int .i64 (j : Int))) w := by
  induction h with
  | nil => rfl
  | @cons e g es L i hk hv _ ih =>
    unfold Instr.findAsking idx
    rw [hk, hv]
    by_cases c : same32 f g
    · simp [equal_id, c]
    · simp [equal_id, c, ih]
theorem findNow_id (f : Nat → UInt8) (es : List MapEntry) (i : Nat) : Instr.findNow (.array 32 5) (kv f) es i = if es = [] then some none else none := by
  cases es with
  | nil => rfl
  | cons e es => simp [Instr.findNow, Instr.sameNow]
theorem findKey_id (f : Nat → UInt8) (w : World) {es : List MapEntry} {L : List (Nat → UInt8)} (h : Kes es L 0) :
    (Instr.findKey 37 (kv f) es).run Tryz.prog w = .ok ((idx f L 0).map fun j => (j, .int .i64 (j : Int))) w := by
  unfold Instr.findKey
  simp only [Sem.run_bind, run_underlying ty30, Result.andThen_ok]
  rw [findNow_id]
  cases h with
  | nil => rfl
  | cons hk hv h => simpa using find_id f w (.cons hk hv h)
theorem Kes.snoc {es : List MapEntry} {L : List (Nat → UInt8)} {i : Nat} (h : Kes es L i) {e : MapEntry} {g : Nat → UInt8} (hk : e.key = kv g) (hv : e.val = .int .i64 ((i + L.length : Nat) : Int)) : Kes (es ++ [e]) (L ++ [g]) i := by
  induction h with
  | nil => exact .cons hk hv .nil
  | @cons e2 g2 es L i hk2 hv2 _ ih => exact .cons hk2 hv2 (ih (by rw [hv, List.length_cons, show i + 1 + L.length = i + (L.length + 1) by omega]))
/- block m is a map of ids to their places -/
def IdMap (w : World) (m : Nat) (L : List (Nat → UInt8)) : Prop := ∃ es cl, w.heap[m]? = some (.map es cl) ∧ Kes es.toList L 0
theorem IdMap.made (w : World) : IdMap (w.alloc (.map #[] 0)) w.heap.size [] := ⟨#[], 0, (MapKept.heap_alloc w _).1, .nil⟩
theorem IdMap.lt {w : World} {m : Nat} {L : List (Nat → UInt8)} (h : IdMap w m L) : m < w.heap.size := by
  obtain ⟨es, cl, hb, _⟩ := h
  exact lt_of_block hb
theorem IdMap.at_ {w w' : World} {m : Nat} {L : List (Nat → UInt8)} (h : IdMap w m L) (hb : w'.heap[m]? = w.heap[m]?) : IdMap w' m L := by
  obtain ⟨es, cl, h1, h2⟩ := h
  exact ⟨es, cl, by rw [hb]; exact h1, h2⟩
theorem IdMap.keep {K : Nat → Prop} {w w' : World} {m : Nat} {L : List (Nat → UInt8)} (h : IdMap w m L) (hk : Keep K w w') (hK : K m) : IdMap w' m L := h.at_ (hk.block m hK h.lt)
def idxV (o : Option Nat) : Value := match o with | some j => .tuple #[.int .i64 (j : Int), .bool true] | none => .tuple #[.int .i64 0, .bool false]
theorem IdMap.look {w : World} {m : Nat} {L : List (Nat → UInt8)} (h : IdMap w m L) (f : Nat → UInt8) : (Instr.lookup 84 (.map (some m)) (kv f) true).run Tryz.prog w = .ok (idxV (idx f L 0)) w := by
  obtain ⟨es, cl, h1, h2⟩ := h
  have hc := check_id es.isEmpty f w
  have hf := findKey_id f w h2
  have hz : (zeroValue 3).run Tryz.prog w = .ok (.int .i64 0) w := by kernel_rfl
  cases hh : idx f L 0 with
  | none => simp [Instr.lookup, run_underlying idmap_is, MapKept.run_getObj_map h1, hc, hf, hh, hz, idxV]
  | some j => simp [Instr.lookup, run_underlying idmap_is, MapKept.run_getObj_map h1, hc, hf, hh, idxV]
theorem IdMap.put {w : World} {m : Nat} {L : List (Nat → UInt8)} (h : IdMap w m L) (f : Nat → UInt8) (hn : idx f L 0 = none) :
    ∃ W', (Instr.mapUpdate 84 (.map (some m)) (kv f) (.int .i64 (L.length : Int))).run Tryz.prog w = .ok () W' ∧ IdMap W' m (L ++ [f]) ∧ Keep (fun j => j ≠ m) w W' := by
  obtain ⟨es, cl, h1, h2⟩ := h
  have hc := check_id false f w
  have hf := findKey_id f w h2
  refine ⟨setBlock w m (.map (es.push { key := kv f, val := .int .i64 (L.length : Int), born := cl }) (cl + 1)), ?_, ⟨es.push { key := kv f, val := .int .i64 (L.length : Int), born := cl }, cl + 1, heap_setBlock_same h1 _, ?_⟩, ⟨rfl, rfl, rfl, by simp [setBlock], fun i hi _ => heap_setBlock_other h1 _ hi⟩⟩
  · simp [Instr.mapUpdate, run_underlying idmap_is, MapKept.run_getObj_map h1, hc, hf, hn, MapKept.run_setObj_map _ h1, Result.andThen, setBlock]
  · rw [Array.toList_push]
    exact h2.snoc rfl (by rw [Nat.zero_add])
end Go.Proofs.YtnmjcpoobabjgaaGreatDoor
/- Rows of parts, of ints, of texts. -/
namespace Go.Proofs.YtnmjcpoobabjgaaGreatDoor
set_option maxRecDepth 100000
open Go.RowKit
section
variable {α : Type}
def cf (m : Nat) (g : α → Nat → Value) (d : α) (l : List α) (i : Nat) : Value := g (l.getD (i / m) d) (i % m)
theorem cf_at {m : Nat} (g : α → Nat → Value) (d : α) (l : List α) (k j : Nat) (hj : j < m) : cf m g d l (k * m + j) = g (l.getD k d) j := by
  unfold cf
  rw [Nat.mul_comm, Nat.mul_add_div (by omega), Nat.div_eq_of_lt hj, Nat.mul_add_mod, Nat.mod_eq_of_lt hj, Nat.add_zero]
theorem cf_snoc {m : Nat} (g : α → Nat → Value) (d : α) (l : List α) (x : α) (i : Nat) (hm : 0 < m) (h : i < l.length * m) : cf m g d (l ++ [x]) i = cf m g d l i := by
  have : i / m < l.length := (Nat.div_lt_iff_lt_mul hm).2 h
  unfold cf
  rw [List.getD_eq_getElem?_getD, List.getD_eq_getElem?_getD, List.getElem?_append_left this]
theorem cf_last {m : Nat} (g : α → Nat → Value) (d : α) (l : List α) (x : α) : arr m (g x) = arr m (fun j => cf m g d (l ++ [x]) (l.length * m + j)) := by
  apply arr_congr
  intro j hj
  have e : (l ++ [x]).getD l.length d = x := by rw [List.getD_eq_getElem?_getD, List.getElem?_concat_length]; rfl
  rw [cf_at _ _ _ _ _ hj, e]
def RowG (m : Nat) (g : α → Nat → Value) (d : α) (w : World) (v : Value) (l : List α) : Prop := Row w v m (cf m g d l) l.length
def OwnG (e m : Nat) (g : α → Nat → Value) (d : α) (w : World) (B : Nat) (v : Value) (l : List α) : Prop := w.ownsRow B e m v l.length (arr (l.length * m) (cf m g d l)).toList
theorem OwnG.row {e m : Nat} {g : α → Nat → Value} {d : α} {w : World} {B : Nat} {v : Value} {l : List α} (h : OwnG e m g d w B v l) : RowG m g d w v l := owns_row h
theorem OwnG.nil (e m : Nat) (g : α → Nat → Value) (d : α) (w : World) (B : Nat) : OwnG e m g d w B (.slice none 0 0) [] := by
  unfold OwnG
  rw [List.length_nil, Nat.zero_mul]
  exact World.ownsRow_nil _ _ _ _
theorem OwnG.all {e m : Nat} {g : α → Nat → Value} {d : α} {w w' : World} {B : Nat} {v : Value} {l : List α} (h : OwnG e m g d w B v l) (hb : Below w.heap.size w w') : OwnG e m g d w' B v l := owns_all h hb
theorem OwnG.keep {K : Nat → Prop} {e m : Nat} {g : α → Nat → Value} {d : α} {w w' : World} {B : Nat} {v : Value} {l : List α} (h : OwnG e m g d w B v l) (hk : Keep K w w') (hK : ∀ g, B ≤ g → K g) : OwnG e m g d w' B v l := owns_keep h hk fun g hg => hK g (own_lt h hg).1
theorem OwnG.mono {e m : Nat} {g : α → Nat → Value} {d : α} {w : World} {B B' : Nat} {v : Value} {l : List α} (h : OwnG e m g d w B v l) (hB : B' ≤ B) : OwnG e m g d w B' v l :=
  ⟨h.1, h.2.imp id fun ⟨g, cap, cur, a, c, d⟩ => ⟨g, cap, cur, a, Nat.le_trans hB c, d⟩⟩
theorem RowG.below {m : Nat} {g : α → Nat → Value} {d : α} {w w' : World} {v : Value} {l : List α} (h : RowG m g d w v l) (hb : Below w.heap.size w w') : RowG m g d w' v l := Row.below h hb
theorem RowG.cells {m : Nat} {g : α → Nat → Value} {d : α} {w : World} {v : Value} {l : List α} (h : RowG m g d w v l) : ∃ ad cap, v = .slice ad l.length cap ∧ ∀ k, k < l.length → l.length ≤ cap ∧ ∃ b o, ad = some ⟨b, o, none⟩ ∧ b < w.heap.size ∧ ∀ j, j < m → w.cell? ⟨b, o + k * m + j, none⟩ = some (g (l.getD k d) j) := by
  obtain ⟨ad, cap, rfl, ha⟩ := row_addr h
  refine ⟨ad, cap, rfl, fun k hk => ?_⟩
  obtain ⟨b, o, rfl, hb, hA⟩ := ha (by omega)
  refine ⟨row_cap h (by omega), b, o, rfl, hb, fun j hj => ?_⟩
  have h1 : k * m + j < l.length * m := by
    have := Nat.mul_le_mul_right m (show k + 1 ≤ l.length by omega)
    rw [Nat.succ_mul] at this
    omega
  rw [Nat.add_assoc, hA _ h1, cf_at _ _ _ _ _ hj]
theorem RowG.len {m : Nat} {g : α → Nat → Value} {d : α} {w : World} {v : Value} {l : List α} (h : RowG m g d w v l) : ∃ ad cap, v = .slice ad l.length cap := by
  obtain ⟨ad, cap, e, _⟩ := h.cells
  exact ⟨ad, cap, e⟩
theorem RowG.nil (m : Nat) (g : α → Nat → Value) (d : α) (w : World) : RowG m g d w (.slice none 0 0) [] := Row.nil _ _ _
/- the first k -/
theorem RowG.take {m : Nat} {g : α → Nat → Value} {d : α} {w : World} {ad : Option Addr} {n cap : Nat} {l : List α} (h : RowG m g d w (.slice ad n cap) l) {k : Nat} (hk : k ≤ l.length) : RowG m g d w (.slice ad k cap) (l.take k) := by
  have hl : (l.take k).length = k := by rw [List.length_take]; omega
  unfold RowG
  rw [hl]
  rcases h with ⟨ad', cap', e, h0⟩ | ⟨b, o, cap', e, h0, h1, h2, h3⟩
  · cases e
    exact Or.inl ⟨_, _, by rw [show k = 0 by omega], by omega⟩
  · cases e
    by_cases c : k = 0
    · subst c; exact Or.inl ⟨_, _, rfl, rfl⟩
    · refine Or.inr ⟨b, o, cap, rfl, by omega, by omega, h2, fun i hi => ?_⟩
      rw [h3 i (Nat.lt_of_lt_of_le hi (Nat.mul_le_mul_right m hk))]
      have : i / m < k := by
        by_cases hm : m = 0
        · subst hm; simp at hi
        · exact (Nat.div_lt_iff_lt_mul (by omega)).2 hi
      unfold cf
      rw [List.getD_eq_getElem?_getD, List.getD_eq_getElem?_getD, List.getElem?_take, if_pos this]
theorem app_g {t e m bytes : Nat} {z : Value} {g : α → Nat → Value} {d : α} (ht : Tryz.prog.underlying t = some (.slice e)) (hi : (Tryz.prog.info? e).map (fun i => (i.zero, i.size, i.bytes)) = some (some z, m, bytes)) (hzs : z.cells.size = m) (hm : 0 < m) (hby : bytes ≤ 64) (h1 : ∀ x j, (g x j).oneCell' = true)
    {B : Nat} {w : World} {v : Value} {l : List α} (x : α) (A : Array Value) (hA : A = arr m (g x)) (h : OwnG e m g d w B v l) (hB : B ≤ w.heap.size) (hn : l.length + 1 ≤ 100000) :
    ∃ b cap w', (Builtin.append_ #[t, t] t #[v, .slice (some ⟨w.heap.size, 0, none⟩) 1 1]).run Tryz.prog (w.alloc (.cells A e)) = .ok (.slice (some ⟨b, 0, none⟩) (l.length + 1) cap) w' ∧
      OwnG e m g d w' B (.slice (some ⟨b, 0, none⟩) (l.length + 1) cap) (l ++ [x]) ∧ Below B w w' := by
  have h2 : w.ownsRow B e m v l.length (arr (l.length * m) (cf m g d (l ++ [x]))).toList := by
    have e : arr (l.length * m) (cf m g d l) = arr (l.length * m) (cf m g d (l ++ [x])) := arr_congr fun i hi => (cf_snoc g d l x i hm hi).symm
    rw [← e]
    exact h
  obtain ⟨b, cap, w', hr, ho, hk, hat⟩ := app_own ht hi hzs hm hby A (hA.trans (cf_last g d l x)) (fun j => h1 _ _) h2 hB hn
  refine ⟨b, cap, w', hr, ?_, hk.os, hk.tape, hk.output, hk.size, fun k hkB => hk.block k (fun e => ?_) (by omega)⟩
  · unfold OwnG
    rw [List.length_append, List.length_singleton]
    exact ho
  · have := own_lt h e
    omega
end
/- parts -/
def gP (x : Pt) : Nat → Value
  | 0 => .bool x.d
  | 1 => .int .i64 x.b
  | _ => .string (bs x.t)
theorem gP_one (x : Pt) (j : Nat) : (gP x j).oneCell' = true := by unfold gP; split <;> rfl
def ptv (x : Pt) : Value := .agg #[.bool x.d, .int .i64 x.b, .string (bs x.t)]
def RowP (w : World) (v : Value) (l : List Pt) : Prop := RowG 3 gP zp w v l
def OwnP (w : World) (B : Nat) (v : Value) (l : List Pt) : Prop := OwnG 60 3 gP zp w B v l
theorem tPt : Tryz.prog.underlying 22 = some (.slice 60) := by kernel_rfl
theorem iPt : (Tryz.prog.info? 60).map (fun i => (i.zero, i.size, i.bytes)) = some (some (.agg #[.bool false, .int .i64 0, .string ⟨#[]⟩]), 3, 32) := by kernel_rfl
theorem RowP.cells {w : World} {v : Value} {l : List Pt} (h : RowP w v l) : ∃ ad cap, v = .slice ad l.length cap ∧ ∀ k, k < l.length → ∃ b o, ad = some ⟨b, o, none⟩ ∧ b < w.heap.size ∧ w.cell? ⟨b, o + k * 3, none⟩ = some (.bool (l.getD k zp).d) ∧ w.cell? ⟨b, o + k * 3 + 1, none⟩ = some (.int .i64 (l.getD k zp).b) ∧ w.cell? ⟨b, o + k * 3 + 2, none⟩ = some (.string (bs (l.getD k zp).t)) := by
  obtain ⟨ad, cap, e, hc⟩ := RowG.cells h
  refine ⟨ad, cap, e, fun k hk => ?_⟩
  obtain ⟨_, b, o, ha, hb, hj⟩ := hc k hk
  exact ⟨b, o, ha, hb, hj 0 (by decide), hj 1 (by decide), hj 2 (by decide)⟩
/- places -/
def gN (x : Nat) (_ : Nat) : Value := .int .i64 (x : Int)
def RowN (w : World) (v : Value) (l : List Nat) : Prop := RowG 1 gN 0 w v l
def OwnN (w : World) (B : Nat) (v : Value) (l : List Nat) : Prop := OwnG 3 1 gN 0 w B v l
theorem tIs : Tryz.prog.underlying 28 = some (.slice 3) := by kernel_rfl
theorem iIs : (Tryz.prog.info? 3).map (fun i => (i.zero, i.size, i.bytes)) = some (some (.int .i64 0), 1, 8) := by kernel_rfl
theorem app_n {B : Nat} {w : World} {v : Value} {l : List Nat} (x : Nat) (h : OwnN w B v l) (hB : B ≤ w.heap.size) (hn : l.length + 1 ≤ 100000) :
    ∃ b cap w', (Builtin.append_ #[28, 28] 28 #[v, .slice (some ⟨w.heap.size, 0, none⟩) 1 1]).run Tryz.prog (w.alloc (.cells #[.int .i64 (x : Int)] 3)) = .ok (.slice (some ⟨b, 0, none⟩) (l.length + 1) cap) w' ∧
      OwnN w' B (.slice (some ⟨b, 0, none⟩) (l.length + 1) cap) (l ++ [x]) ∧ Below B w w' := app_g tIs iIs rfl (by decide) (by decide) (fun _ _ => rfl) x _ rfl h hB hn
theorem RowN.cells {w : World} {v : Value} {l : List Nat} (h : RowN w v l) : ∃ ad cap, v = .slice ad l.length cap ∧ ∀ k, k < l.length → ∃ b o, ad = some ⟨b, o, none⟩ ∧ b < w.heap.size ∧ w.cell? ⟨b, o + k, none⟩ = some (.int .i64 (l.getD k 0 : Int)) := by
  obtain ⟨ad, cap, e, hc⟩ := RowG.cells h
  refine ⟨ad, cap, e, fun k hk => ?_⟩
  obtain ⟨_, b, o, ha, hb, hj⟩ := hc k hk
  have := hj 0 (by decide)
  rw [Nat.mul_one] at this
  exact ⟨b, o, ha, hb, this⟩
/- ints -/
def gI (x : Int) (_ : Nat) : Value := .int .i64 x
def RowI (w : World) (v : Value) (l : List Int) : Prop := RowG 1 gI 0 w v l
theorem RowI.cells {w : World} {v : Value} {l : List Int} (h : RowI w v l) : ∃ ad cap, v = .slice ad l.length cap ∧ ∀ k, k < l.length → ∃ b o, ad = some ⟨b, o, none⟩ ∧ b < w.heap.size ∧ w.cell? ⟨b, o + k, none⟩ = some (.int .i64 (l.getD k 0)) := by
  obtain ⟨ad, cap, e, hc⟩ := RowG.cells h
  refine ⟨ad, cap, e, fun k hk => ?_⟩
  obtain ⟨_, b, o, ha, hb, hj⟩ := hc k hk
  have := hj 0 (by decide)
  rw [Nat.mul_one] at this
  exact ⟨b, o, ha, hb, this⟩
/- texts -/
def gS (x : List UInt8) (_ : Nat) : Value := .string (bs x)
def RowS (w : World) (v : Value) (l : List (List UInt8)) : Prop := RowG 1 gS [] w v l
def OwnS (w : World) (B : Nat) (v : Value) (l : List (List UInt8)) : Prop := OwnG 9 1 gS [] w B v l
theorem tSs : Tryz.prog.underlying 71 = some (.slice 9) := by kernel_rfl
theorem iSs : (Tryz.prog.info? 9).map (fun i => (i.zero, i.size, i.bytes)) = some (some (.string ⟨#[]⟩), 1, 16) := by kernel_rfl
theorem app_s {B : Nat} {w : World} {v : Value} {l : List (List UInt8)} (x : List UInt8) (h : OwnS w B v l) (hB : B ≤ w.heap.size) (hn : l.length + 1 ≤ 100000) :
    ∃ b cap w', (Builtin.append_ #[71, 71] 71 #[v, .slice (some ⟨w.heap.size, 0, none⟩) 1 1]).run Tryz.prog (w.alloc (.cells #[.string (bs x)] 9)) = .ok (.slice (some ⟨b, 0, none⟩) (l.length + 1) cap) w' ∧
      OwnS w' B (.slice (some ⟨b, 0, none⟩) (l.length + 1) cap) (l ++ [x]) ∧ Below B w w' := app_g tSs iSs rfl (by decide) (by decide) (fun _ _ => rfl) x _ rfl h hB hn
theorem RowS.cells {w : World} {v : Value} {l : List (List UInt8)} (h : RowS w v l) : ∃ ad cap, v = .slice ad l.length cap ∧ ∀ k, k < l.length → ∃ b o, ad = some ⟨b, o, none⟩ ∧ b < w.heap.size ∧ w.cell? ⟨b, o + k, none⟩ = some (.string (bs (l.getD k []))) := by
  obtain ⟨ad, cap, e, hc⟩ := RowG.cells h
  refine ⟨ad, cap, e, fun k hk => ?_⟩
  obtain ⟨_, b, o, ha, hb, hj⟩ := hc k hk
  have := hj 0 (by decide)
  rw [Nat.mul_one] at this
  exact ⟨b, o, ha, hb, this⟩
end Go.Proofs.YtnmjcpoobabjgaaGreatDoor
/- May a part's base be? The way from a part to a plain one. -/
namespace Go.Proofs.YtnmjcpoobabjgaaGreatDoor
set_option maxRecDepth 100000
open Go.RowKit
theorem formed_any (x : Pt) (k : Int) (w : World) :
    Calls Tryz.prog 103 #[.agg #[.bool x.d, .int .i64 x.b, .string (bs x.t)], .int .i64 k] w fun e w' => e = .returned (.bool (fm x k)) ∧ Below w.heap.size w w' := by
  obtain ⟨d, b, t⟩ := x
  unfold fm
  dsimp only
  generalize bs t = st
  have B0 : Hid (∀ o, Below w.heap.size w (w.alloc o)) := fun o => (Below.refl _ _).alloc (Nat.le_refl _) o
  cases d with
  | false =>
    have hq : (if false = true then decide (0 ≤ b) && decide (b < k) else decide (b = 0)) = (b == 0) := rfl
    rw [hq]
    go_enter Tryz.func103, Tryz.ntmps103
    go_wp2
    go_ret
    exact ⟨rfl, B0.out _⟩
  | true =>
    have hq : (if true = true then decide (0 ≤ b) && decide (b < k) else decide (b = 0)) = (decide (0 ≤ b) && decide (b < k)) := rfl
    rw [hq]
    by_cases c : 0 ≤ b
    · have e1 : decide (0 ≤ b) = true := by simpa using c
      rw [e1]
      go_enter Tryz.func103, Tryz.ntmps103
      go_wp2
      trace_state
      go_ret
      exact ⟨rfl, B0.out _⟩
    · have e1 : decide (0 ≤ b) = false := by simpa using c
      rw [e1]
      go_enter Tryz.func103, Tryz.ntmps103
      go_wp2
      trace_state
      go_ret
      exact ⟨rfl, B0.out _⟩
/- what holds where along goes on with a label: all is wrong; a part is next -/
def AlongJ (l : List Pt) (v : Value) (R : List Nat × Int) (w : World) (lab : Nat) (a : Act) (w' : World) : Prop :=
  Below w.heap.size w w' ∧
  ((lab = 0 ∧ ∃ (e : Int) (u1 u4 u5 u6 u8 u9 u10 u11 u12 u13 u14 u15 u16 u17 u18 u19 u20 u21 u22 u23 u24 u25 u26 u27 u28 u29 u30 u31 u32 u33 u34 u35 u36 u37 u38 u39 u40 u41 u42 u43 u44 u45 u46 : Value), a = { tmps := #[v, u1, undef, undef, u4, u5, u6, .int .i64 e, u8, u9, u10, u11, u12, u13, u14, u15, u16, u17, u18, u19, u20, u21, u22, u23, u24, u25, u26, u27, u28, u29, u30, u31, u32, u33, u34, u35, u36, u37, u38, u39, u40, u41, u42, u43, u44, u45, u46], defers := [] } ∧ R = ([], e)) ∨
   (lab = 1 ∧ ∃ (k : Nat) (way : List Nat) (u u4 u5 u7 u8 u9 u10 u11 u12 u13 u14 u15 u16 u17 u18 u19 u20 u21 u22 u23 u24 u25 u26 u27 u28 u29 u30 u31 u32 u33 u34 u35 u36 u37 u38 u39 u40 u41 u42 u43 u44 u45 u46 : Value), a = { tmps := #[v, .int .i64 (k : Int), undef, undef, u4, u5, u, u7, u8, u9, u10, u11, u12, u13, u14, u15, u16, u17, u18, u19, u20, u21, u22, u23, u24, u25, u26, u27, u28, u29, u30, u31, u32, u33, u34, u35, u36, u37, u38, u39, u40, u41, u42, u43, u44, u45, u46], defers := [] } ∧ k < l.length ∧ way.length ≤ 5 ∧ OwnN w' w.heap.size u way ∧ R = pre way (al l (5 - way.length) k)))
def AlongJ0 (v : Value) (R : List Nat × Int) (w : World) (lab : Nat) (a : Act) (w' : World) : Prop :=
  lab = 0 ∧ Below w.heap.size w w' ∧ ∃ (e : Int) (u1 u4 u5 u6 u8 u9 u10 u11 u12 u13 u14 u15 u16 u17 u18 u19 u20 u21 u22 u23 u24 u25 u26 u27 u28 u29 u30 u31 u32 u33 u34 u35 u36 u37 u38 u39 u40 u41 u42 u43 u44 u45 u46 : Value), a = { tmps := #[v, u1, undef, undef, u4, u5, u6, .int .i64 e, u8, u9, u10, u11, u12, u13, u14, u15, u16, u17, u18, u19, u20, u21, u22, u23, u24, u25, u26, u27, u28, u29, u30, u31, u32, u33, u34, u35, u36, u37, u38, u39, u40, u41, u42, u43, u44, u45, u46], defers := [] } ∧ R = ([], e)
def alongM (lab : Nat) (a : Act) (_ : World) : Nat := if lab = 0 then 0 else 1 + (intOf (a.tmps.getD 1 undef)).toNat
set_option maxHeartbeats 4000000 in
theorem along_any {l : List Pt} {v : Value} (at_ : Int) {w : World} (hv : RowP w v l) (hs : l.length ≤ 100000) :
    Calls Tryz.prog 86 #[v, .int .i64 at_] w fun e w' => ∃ u, e = .returned (.tuple #[u, .int .i64 (wayR l at_).2]) ∧ OwnN w' w.heap.size u (wayR l at_).1 ∧ Below w.heap.size w w' := by
  have H0 : Hid (RowP w v l) := hv
  obtain ⟨ad, cap, rfl⟩ := RowG.len hv
  clear hv
  obtain ⟨R, hR⟩ : ∃ R, R = wayR l at_ := ⟨_, rfl⟩
  rw [← hR]
  by_cases c : 200 < l.length ∨ at_ < 0 ∨ (l.length : Int) ≤ at_
  · have hR1 : Hid (R = ([], 1)) := by show _ = _; rw [hR]; unfold wayR; rw [if_pos c]
    clear hR
    have hcs : (200 : Int) < (l.length : Int) ∨ (¬ (200 : Int) < (l.length : Int) ∧ at_ < 0) ∨ (¬ (200 : Int) < (l.length : Int) ∧ ¬ at_ < 0 ∧ (l.length : Int) ≤ at_) := by omega
    clear c
    have P0 : ∀ (a : Act) (w' : World) (e : Int) (Q : Exit → Act → World → Prop), True := fun _ _ _ _ => trivial
    rcases hcs with c1 | ⟨c1, c2⟩ | ⟨c1, c2, c3⟩
    all_goals
      go_enter Tryz.func86, Tryz.ntmps86
      go_wp2
      refine wp_scope_labels (AlongJ0 (.slice ad l.length cap) R w) (fun _ _ _ => 0) ?_ ?_
      · go_wp2
        go_step3
        exact ⟨rfl, Below.refl _ _, 1, _, _, _, _, _, _, _, _, _, _, _, _, _, _, _, _, _, _, _, _, _, _, _, _, _, _, _, _, _, _, _, _, _, _, _, _, _, _, _, _, _, _, _, rfl, hR1.out⟩
      · rintro lab a w' ⟨rfl, hb, e, u1, u4, u5, u6, u8, u9, u10, u11, u12, u13, u14, u15, u16, u17, u18, u19, u20, u21, u22, u23, u24, u25, u26, u27, u28, u29, u30, u31, u32, u33, u34, u35, u36, u37, u38, u39, u40, u41, u42, u43, u44, u45, u46, ha, hr⟩
        refine ⟨_, rfl, ?_⟩
        dsimp only at ha
        subst ha
        have HB := Lib.hid hb
        have HR := Lib.hid hr
        clear hb hr hR1
        go_wp2
        simp only [exitJumps]
        go_ret2
        exact ⟨.slice none 0 0, by rw [HR.out]; rfl, by rw [HR.out]; exact OwnG.nil _ _ _ _ _ _, HB.out⟩
  · have hR1 : Hid (R = al l 5 at_.toNat) := by show _ = _; rw [hR]; unfold wayR; rw [if_neg c]
    clear hR
    have c1 : ¬ (200 : Int) < (l.length : Int) := by omega
    have c2 : ¬ at_ < 0 := by omega
    have c3 : ¬ (l.length : Int) ≤ at_ := by omega
    obtain ⟨a0, rfl⟩ : ∃ a0 : Nat, at_ = (a0 : Int) := ⟨at_.toNat, by omega⟩
    have HA : Hid (a0 < l.length) := by show _ < _; omega
    clear c
    go_enter Tryz.func86, Tryz.ntmps86
    go_wp2
    refine wp_scope_two (AlongJ l (.slice ad l.length cap) R w) alongM rfl rfl (fun lab a w' h => h.2.elim (fun h => Or.inl h.1) (fun h => Or.inr h.1)) ?_ ?_ ?_
    · intro R' hR'
      go_wp2
      go_step3
      rename_i K0 hK0
      exact hK0 _ _ (hR' _ _ ⟨Below.refl _ _, Or.inr ⟨rfl, a0, [], .slice none 0 0, _, _, _, _, _, _, _, _, _, _, _, _, _, _, _, _, _, _, _, _, _, _, _, _, _, _, _, _, _, _, _, _, _, _, _, _, _, _, _, _, _, _, rfl, HA.out, by decide, OwnG.nil _ _ _ _ _ _, by rw [pre_nil (al_err l _ _)]; exact hR1.out⟩⟩)
    · rintro a w' ⟨hb, ⟨_, e, u1, u4, u5, u6, u8, u9, u10, u11, u12, u13, u14, u15, u16, u17, u18, u19, u20, u21, u22, u23, u24, u25, u26, u27, u28, u29, u30, u31, u32, u33, u34, u35, u36, u37, u38, u39, u40, u41, u42, u43, u44, u45, u46, ha, hr⟩ | ⟨h01, _⟩⟩
      · dsimp only at ha
        subst ha
        have HB := Lib.hid hb
        have HR := Lib.hid hr
        clear hb hr hR1
        go_wp2
        simp only [exitJumps]
        go_ret2
        exact ⟨.slice none 0 0, by rw [HR.out]; rfl, by rw [HR.out]; exact OwnG.nil _ _ _ _ _ _, HB.out⟩
      · cases h01
    · rintro a w' ⟨hb, ⟨h01, _⟩ | ⟨_, k, way, u, u4, u5, u7, u8, u9, u10, u11, u12, u13, u14, u15, u16, u17, u18, u19, u20, u21, u22, u23, u24, u25, u26, u27, u28, u29, u30, u31, u32, u33, u34, u35, u36, u37, u38, u39, u40, u41, u42, u43, u44, u45, u46, ha, hk, hw5, ho, hr⟩⟩
      · cases h01
      · dsimp only at ha
        subst ha
        clear c1 c2 c3 hR1 HA
        have HB := Lib.hid hb
        have HR := Lib.hid hr
        have HO := Lib.hid ho
        have HW := Lib.hid hw5
        have HK := Lib.hid hk
        obtain ⟨ad', cap', e0, hc⟩ := RowP.cells H0.out
        cases e0
        obtain ⟨b, o, rfl, hbl, hc0, hc1, hc2⟩ := hc k hk
        rw [← hb.cell (by exact hbl)] at hc0 hc1 hc2
        clear hc hr ho hw5
        obtain ⟨x, hx⟩ : ∃ x, x = l.getD k zp := ⟨_, rfl⟩
        rw [← hx] at hc0 hc1 hc2
        have HX := Lib.hid hx
        clear hx
        have C1 : Hid (∀ W, _) := Lib.hid (fun W => formed_any x (k : Int) W)
        have yk : (k : Int) < (l.length : Int) := by omega
        have y0 : (0 : Int) ≤ (k : Int) := by omega
        obtain ⟨d, xb, t⟩ := x
        dsimp only at C1 hc0 hc1 hc2
        have HF : Hid (∀ W : World, Below w.heap.size w' W → W.cell? ⟨b, o + k * 3, none⟩ = some (.bool d) ∧ W.cell? ⟨b, o + k * 3 + 1, none⟩ = some (.int .i64 xb)) := fun W hW => ⟨by rw [hW.cell hbl]; exact hc0, by rw [hW.cell hbl]; exact hc1⟩
        generalize bs t = st at C1 hc2
        by_cases hf : fm ⟨d, xb, t⟩ (k : Int) = true
        · have HFm := Lib.hid hf
          rw [hf] at C1
          clear hf
          obtain ⟨ao, n, co, hn, rfl⟩ : ∃ ao n co, n = way.length ∧ u = .slice ao n co := by
            obtain ⟨x1, x2, x3⟩ := RowG.len HO.out.row
            exact ⟨_, _, _, rfl, x3⟩
          have HN := Lib.hid hn
          clear hn
          have HZ : Hid (w.heap.size ≤ w'.heap.size) := hb.size
          go_wp2_with fail
          refine (C1.out _).mono ?_
          rintro e w1 ⟨rfl, B1⟩
          obtain ⟨g1, g2⟩ := HF.out _ (B1.mono HZ.out)
          have O1 := Lib.hid (HO.out.all B1)
          have L1 := Lib.hid (HB.out.trans (B1.mono HZ.out))
          obtain ⟨gb, gc, w2, hrun, O2, B2⟩ := app_n k O1.out L1.out.size (by have := HW.out; omega)
          have L2 := Lib.hid (L1.out.trans B2)
          obtain ⟨g3, g4⟩ := HF.out _ ((B1.mono HZ.out).trans B2)
          have HO2 := Lib.hid O2
          clear B1 B2 O1 O2 HB HO C1 HF hc0 hc1 hc2 hb
          have N2 : Hid ((way ++ [k]).length = way.length + 1) := by show _ = _; simp
          have HS : Hid (way.length = 5 → R = ([], 11)) := fun w5 => by
            rw [HR.out, w5, Nat.sub_self, al_deep (by rw [← HX.out]; exact HFm.out)]
            rfl
          have HP : Hid (way.length < 5 → d = false → R = (way ++ [k], 0)) := fun w5 hd => by
            rw [HR.out, show 5 - way.length = (4 - way.length) + 1 by omega, al_plain (by rw [← HX.out]; exact HFm.out) (by rw [← HX.out]; exact hd)]
            rfl
          have HD : Hid (way.length < 5 → d = true → 0 ≤ xb ∧ xb < k ∧ R = pre (way ++ [k]) (al l (5 - (way ++ [k]).length) xb.toNat)) := fun w5 hd => by
            have h3 := fm_delta HFm.out hd
            refine ⟨h3.1, h3.2.1, ?_⟩
            rw [HR.out, N2.out, show 5 - way.length = (5 - (way.length + 1)) + 1 by omega, al_delta (by rw [← HX.out]; exact HFm.out) (by rw [← HX.out]; exact hd), ← HX.out]
          rw [← HN.out] at hrun HO2
          have n5 := HW.out
          rw [← HN.out] at n5
          clear HR HFm HX
          by_cases w5 : n = 5
          · have t5 : (5 : Int) < (n : Int) + 1 := by omega
            have HE := Lib.hid (HS.out (by rw [← HN.out]; exact w5))
            clear HS HP HD w5 n5 g1 g2
            go_wp2_with (at_builtin; refine wpList_append_run rfl (.tmp 28) (.tmp 30) 28 28 rfl _ _ _ _ rfl rfl hrun ?_)
            clear hrun
            go_wp2
            go_step3
            exact ⟨⟨L2.out, Or.inl ⟨rfl, 11, _, _, _, _, _, _, _, _, _, _, _, _, _, _, _, _, _, _, _, _, _, _, _, _, _, _, _, _, _, _, _, _, _, _, _, _, _, _, _, _, _, _, _, rfl, HE.out⟩⟩, by show 0 < 1 + _; omega⟩
          · have t5 : (n : Int) + 1 ≤ 5 := by omega
            have HLT : Hid (way.length < 5) := by show _ < _; rw [← HN.out]; omega
            cases d with
            | false =>
              have HE := Lib.hid (HP.out HLT.out rfl)
              clear HS HP HD w5 n5 g1 g2
              go_wp2_with (at_builtin; refine wpList_append_run rfl (.tmp 28) (.tmp 30) 28 28 rfl _ _ _ _ rfl rfl hrun ?_)
              clear hrun
              go_wp2
              simp only [exitJumps]
              go_ret2
              exact ⟨.slice (some ⟨gb, 0, none⟩) (n + 1) gc, by rw [HE.out]; rfl, by rw [HE.out]; exact HO2.out, L2.out⟩
            | true =>
              obtain ⟨b0, b1, b2⟩ := HD.out HLT.out rfl
              obtain ⟨xn, rfl⟩ : ∃ xn : Nat, xb = (xn : Int) := ⟨xb.toNat, by omega⟩
              have HB2 := Lib.hid b2
              have HL := Lib.hid b1
              clear HS HP HD w5 n5 g1 g2 b0 b1 b2
              go_wp2_with (at_builtin; refine wpList_append_run rfl (.tmp 28) (.tmp 30) 28 28 rfl _ _ _ _ rfl rfl hrun ?_)
              clear hrun
              go_wp2
              go_step3
              refine ⟨⟨L2.out, Or.inr ⟨rfl, xn, way ++ [k], _, _, _, _, _, _, _, _, _, _, _, _, _, _, _, _, _, _, _, _, _, _, _, _, _, _, _, _, _, _, _, _, _, _, _, _, _, _, _, _, _, _, _, rfl, by have := HL.out; have := HK.out; omega, by rw [N2.out]; exact HLT.out, HO2.out, HB2.out⟩⟩, ?_⟩
              have := HL.out
              show 1 + (intOf (.int .i64 (xn : Int))).toNat < 1 + (intOf (.int .i64 (k : Int))).toNat
              simp [intOf]; omega
        · have hf' : fm ⟨d, xb, t⟩ (k : Int) = false := by simpa using hf
          have HE : Hid (R = ([], 2)) := by
            show _ = _
            rw [HR.out, al_wrong (by rw [← HX.out]; exact hf')]
            rfl
          rw [hf'] at C1
          clear hf hf' HR HF HX HO
          go_wp2_with fail
          refine (C1.out _).mono ?_
          rintro e w1 ⟨rfl, B1⟩
          have L1 := Lib.hid (HB.out.trans (B1.mono HB.out.size))
          clear B1 HB C1
          go_wp2
          go_step3
          exact ⟨⟨L1.out, Or.inl ⟨rfl, 2, _, _, _, _, _, _, _, _, _, _, _, _, _, _, _, _, _, _, _, _, _, _, _, _, _, _, _, _, _, _, _, _, _, _, _, _, _, _, _, _, _, _, _, rfl, HE.out⟩⟩, by show 0 < 1 + _; omega⟩
end Go.Proofs.YtnmjcpoobabjgaaGreatDoor
/- A part's depth; what is told of one part. -/
namespace Go.Proofs.YtnmjcpoobabjgaaGreatDoor
set_option maxRecDepth 100000
open Go.RowKit
/- a text and an error, as told -/
def tv (r : List UInt8 × Int) : Value := .agg #[.string (bs r.1), .int .i64 r.2]
theorem aRes_len (B d : List UInt8) : (aRes B d).1.length ≤ 4099 := by
  unfold aRes
  cases hd : dRead d with
  | none => simp
  | some x =>
    obtain ⟨b, l⟩ := x
    obtain ⟨hb, hg, hs⟩ := dRead_good hd
    dsimp only
    by_cases c : B.length = b
    · rw [if_pos c]
      subst c
      show (tzs B l).length ≤ 4099
      rw [tzs_len hg rfl]
      exact hs
    · rw [if_neg c]; simp
theorem tlq_len (x : Pt) (B : List UInt8) : (tlq x B).1.length ≤ 4099 := by
  unfold tlq
  split
  · exact aRes_len _ _
  · split
    · simp
    · dsimp only; omega
theorem txq_len (l : List Pt) (k : Nat) : (txq l k).1.length ≤ 4099 := by
  rw [txq]
  split
  · split
    · split
      · exact tlq_len _ _
      · simp
    · simp
  · exact tlq_len _ _
theorem two_set {w : World} {p : Nat} {E : TypeId} {x y : Value} (h : w.heap[p]? = some (.cells #[x, y] E (0, 0))) (a b : Value) : ((w.setCell ⟨p, 0, none⟩ a).setCell ⟨p, 1, none⟩ b).heap[p]? = some (.cells #[a, b] E (0, 0)) := by
  rw [heap_setCell_same _ p 1 _ E _ (heap_setCell_same w p 0 _ E _ h)]; rfl
theorem tell_any (x : Pt) (B : List UInt8) (w : World) (hB : B.length ≤ 4099) (ht : x.t.length ≤ 1000000) :
    Calls Tryz.prog 87 #[.agg #[.bool x.d, .int .i64 x.b, .string (bs x.t)], .string (bs B)] w fun e w' => e = .returned (tv (tlq x B)) ∧ Below w.heap.size w w' := by
  obtain ⟨d, b, t⟩ := x
  unfold tv tlq
  dsimp only at ht ⊢
  have hz := bs_size t
  cases d with
  | true =>
    rw [if_pos rfl]
    have C1 : Hid (∀ W, _) := Lib.hid (fun W => apply_any B t W (by omega) (by omega))
    generalize bs (aRes B t).1 = sr at *
    generalize (aRes B t).2 = er at *
    generalize bs B = sB at *
    generalize bs t = st at *
    clear hB ht hz
    go_enter Tryz.func87, Tryz.ntmps87
    go_wp2_with fail
    refine (C1.out _).mono ?_
    rintro e w1 ⟨rfl, B1⟩
    have hk : w1.heap[w.heap.size + 1]? = some (.cells #[.string ⟨#[]⟩, .int .i64 0] 146 (0, 0)) := by
      rw [B1.block (w.heap.size + 1) (by simp)]
      have := heap_alloc_new (w.alloc (.cells #[.bool true, .int .i64 b, .string st] 60)) (.cells #[.string ⟨#[]⟩, .int .i64 0] 146)
      simpa using this
    have c0 := cell_of_row _ _ 0 _ _ _ hk
    have c1 := cell_of_row _ _ 1 _ _ _ hk
    have f0 := frozen_of_row _ _ 0 _ _ hk
    have f1 := frozen_of_row _ _ 1 _ _ hk
    have HK := Lib.hid hk
    have L1 : Hid (Below w.heap.size w w1) := (((Below.refl w.heap.size w).alloc (Nat.le_refl _) _).alloc (by simp) _).trans (B1.mono (by simp; omega))
    clear B1 C1 hk
    go_wp2
    exact bodyPost_ret (v := .agg #[.string sr, .int .i64 er]) (results_cell_row rfl _ _ _ _ _ _ _ rfl (two_set HK.out _ _) Tryz.underlying146 rfl (by kernel_rfl)) rfl ⟨rfl, (L1.out.setCell (by simp) _).setCell (by simp) _⟩
  | false =>
    rw [if_neg (by decide)]
    have hT : ((w.alloc (.cells #[.bool false, .int .i64 b, .string (bs t)] 60)).alloc (.cells #[.string ⟨#[]⟩, .int .i64 0] 146)).heap[w.heap.size + 1]? = some (.cells #[.string ⟨#[]⟩, .int .i64 0] 146 (0, 0)) := by
      have := heap_alloc_new (w.alloc (.cells #[.bool false, .int .i64 b, .string (bs t)] 60)) (.cells #[.string ⟨#[]⟩, .int .i64 0] 146)
      simpa using this
    by_cases c : 4099 < t.length
    · rw [if_pos c]
      have e0 : bs [] = ⟨#[]⟩ := rfl
      dsimp only
      rw [e0]
      have t1 : (4099 : Int) < ((bs t).size : Int) := by omega
      have c0 := cell_of_row _ _ 0 _ _ _ hT
      have c1 := cell_of_row _ _ 1 _ _ _ hT
      have f0 := frozen_of_row _ _ 0 _ _ hT
      have f1 := frozen_of_row _ _ 1 _ _ hT
      have HK := Lib.hid hT
      have L1 : Hid (∀ o1 o2 : Obj, Below w.heap.size w ((w.alloc o1).alloc o2)) := fun o1 o2 => (((Below.refl w.heap.size w).alloc (Nat.le_refl _) _).alloc (by simp) _)
      clear hT
      generalize bs t = st at *
      clear hB ht hz c
      go_enter Tryz.func87, Tryz.ntmps87
      go_wp2
      exact bodyPost_ret (v := .agg #[.string ⟨#[]⟩, .int .i64 19]) (results_cell_row rfl _ _ (w.heap.size + 1) 146 #[.string ⟨#[]⟩, .int .i64 19] (0, 0) _ rfl (by
        have := heap_alloc_new (w.alloc (.cells #[.bool false, .int .i64 b, .string st] 60)) (.cells #[.string ⟨#[]⟩, .int .i64 19] 146)
        simpa using this) Tryz.underlying146 rfl (by kernel_rfl)) rfl ⟨rfl, L1.out _ _⟩
    · rw [if_neg c]
      have t1 : ((bs t).size : Int) ≤ 4099 := by omega
      have C1 : Hid (∀ W, _) := Lib.hid (clone_any (bs t) (hs := by omega))
      have HK := Lib.hid hT
      generalize bs t = st at *
      clear hB ht hz c hT
      go_enter Tryz.func87, Tryz.ntmps87
      go_wp2_with fail
      refine (C1.out _).mono ?_
      rintro e w1 ⟨rfl, B1⟩
      have hk : w1.heap[w.heap.size + 1]? = some (.cells #[.string ⟨#[]⟩, .int .i64 0] 146 (0, 0)) := by
        rw [B1.block (w.heap.size + 1) (by simp)]
        exact HK.out
      have c0 := cell_of_row _ _ 0 _ _ _ hk
      have c1 := cell_of_row _ _ 1 _ _ _ hk
      have f0 := frozen_of_row _ _ 0 _ _ hk
      have f1 := frozen_of_row _ _ 1 _ _ hk
      have HK1 := Lib.hid hk
      have L1 : Hid (Below w.heap.size w w1) := (((Below.refl w.heap.size w).alloc (Nat.le_refl _) _).alloc (by simp) _).trans (B1.mono (by simp; omega))
      clear B1 C1 hk HK
      go_wp2
      exact bodyPost_ret (v := .agg #[.string st, .int .i64 0]) (results_cell_row rfl _ _ _ _ _ _ _ rfl (two_set HK1.out _ _) Tryz.underlying146 rfl (by kernel_rfl)) rfl ⟨rfl, (L1.out.setCell (by simp) _).setCell (by simp) _⟩
end Go.Proofs.YtnmjcpoobabjgaaGreatDoor
/- A map of what was told, by places; what stands in the room of a teller. -/
namespace Go.Proofs.YtnmjcpoobabjgaaGreatDoor
set_option maxRecDepth 100000
open Go.RowKit Go.ChangeMaps
theorem tmap_is : Tryz.prog.underlying 142 = some (.map 3 146) := by kernel_rfl
theorem tint_is : Tryz.prog.underlying 3 = some (.int .i64) := by kernel_rfl
theorem ztold (w : World) : (zeroValue 146).run Tryz.prog w = .ok (.agg #[.string ⟨#[]⟩, .int .i64 0]) w := by kernel_rfl
/- block m is a map of what is told of some places -/
def Fm (w : World) (m : Nat) (l : List Pt) : Prop := ∃ es cl, w.heap[m]? = some (.map es cl) ∧ ∀ e ∈ es.toList, ∃ j : Nat, e.key = .int .i64 (j : Int) ∧ e.val = tv (txq l j)
theorem Fm.made (w : World) (l : List Pt) : Fm (w.alloc (.map #[] 0)) w.heap.size l := ⟨#[], 0, (MapKept.heap_alloc w _).1, fun e he => by simp at he⟩
theorem Fm.lt {w : World} {m : Nat} {l : List Pt} (h : Fm w m l) : m < w.heap.size := by
  obtain ⟨es, cl, hb, _⟩ := h
  exact lt_of_block hb
theorem Fm.at_ {w w' : World} {m : Nat} {l : List Pt} (h : Fm w m l) (hb : w'.heap[m]? = w.heap[m]?) : Fm w' m l := by
  obtain ⟨es, cl, h1, h2⟩ := h
  exact ⟨es, cl, by rw [hb]; exact h1, h2⟩
/- what is asked of it; where it isn't there it can be put -/
theorem Fm.look {w : World} {m : Nat} {l : List Pt} (h : Fm w m l) (k : Nat) :
    (∀ W : World, W.heap[m]? = w.heap[m]? → (Instr.lookup 142 (.map (some m)) (.int .i64 (k : Int)) true).run Tryz.prog W = .ok (.tuple #[tv (txq l k), .bool true]) W) ∨
    ((∀ W : World, W.heap[m]? = w.heap[m]? → (Instr.lookup 142 (.map (some m)) (.int .i64 (k : Int)) true).run Tryz.prog W = .ok (.tuple #[.agg #[.string ⟨#[]⟩, .int .i64 0], .bool false]) W) ∧
     (∀ W : World, W.heap[m]? = w.heap[m]? → ∃ W', (Instr.mapUpdate 142 (.map (some m)) (.int .i64 (k : Int)) (tv (txq l k))).run Tryz.prog W = .ok () W' ∧ Fm W' m l ∧ Keep (fun j => j ≠ m) W W')) := by
  obtain ⟨es, cl, h1, h2⟩ := h
  have hkey : MapKept.IsKey (.int .i64) (.int .i64 (k : Int)) := rfl
  have hks : ∀ x ∈ es.toList, MapKept.IsKey (.int .i64) x.key := fun x hx => by
    obtain ⟨j, e, _⟩ := h2 x hx
    rw [e]; rfl
  rcases MapKept.findNow_spec hkey es.toList 0 hks with ⟨g1, g2⟩ | ⟨j, e0, g1, g2, g3⟩
  · refine Or.inr ⟨fun W hW => ?_, fun W hW => ?_⟩
    · rw [h1] at hW
      simp [Instr.lookup, run_underlying tmap_is, MapKept.run_getObj_map hW, MapKept.run_checkKey tint_is hkey, MapKept.run_findKey tint_is g1, ztold, Result.andThen]
    · rw [h1] at hW
      refine ⟨setBlock W m (.map (es.push { key := .int .i64 (k : Int), val := tv (txq l k), born := cl }) (cl + 1)), ?_, ⟨es.push { key := .int .i64 (k : Int), val := tv (txq l k), born := cl }, cl + 1, heap_setBlock_same hW _, fun x hx => ?_⟩, ⟨rfl, rfl, rfl, by simp [setBlock], fun i hi _ => heap_setBlock_other hW _ hi⟩⟩
      · simp [Instr.mapUpdate, run_underlying tmap_is, MapKept.run_getObj_map hW, MapKept.run_checkKey tint_is hkey, MapKept.run_findKey tint_is g1, MapKept.run_setObj_map _ hW, Result.andThen, setBlock]
      · rw [Array.toList_push, List.mem_append, List.mem_singleton] at hx
        rcases hx with hx | rfl
        · exact h2 x hx
        · exact ⟨k, rfl, rfl⟩
  · refine Or.inl fun W hW => ?_
    rw [h1] at hW
    obtain ⟨j', e1, e2⟩ := h2 e0 (List.mem_of_getElem? g2)
    have e3 : j' = k := by
      rw [g3] at e1
      simp only [Value.int.injEq, true_and] at e1
      omega
    subst e3
    simp [Instr.lookup, run_underlying tmap_is, MapKept.run_getObj_map hW, MapKept.run_checkKey tint_is hkey, MapKept.run_findKey tint_is g1, e2, Result.andThen]
section
variable {P : Program}
theorem ex_lookup2 {o : Oper} {a : Act} {w : World} (t : TypeId) (m x : Operand) (ho : o.op = .lookup t m x true) (vm vx v : Value) (hm : a.eval m = vm) (hx : a.eval x = vx) (hr : (Instr.lookup t vm vx true).run P w = .ok v w) : (execOp a.eval o).run P w = .ok (.value v) w := by
  unfold execOp
  simp only [ho, hm, hx, Sem.run_bind, hr, Result.andThen_ok]
  rfl
theorem ex_update {o : Oper} {a : Act} {w w' : World} (t : TypeId) (m x y : Operand) (ho : o.op = .mapUpdate t m x y) (vm vx vy : Value) (hm : a.eval m = vm) (hx : a.eval x = vx) (hy : a.eval y = vy) (hr : (Instr.mapUpdate t vm vx vy).run P w = .ok () w') : (execOp a.eval o).run P w = .ok .skip w' := by
  unfold execOp
  simp only [ho, hm, hx, hy, Sem.run_bind, hr, Result.andThen_ok]
  rfl
theorem step_unit {ops : Array Oper} {o : Oper} {a : Act} {w : World} {K : Act → World → Prop} {Q : Exit → Act → World → Prop} {E : Prop} (hg : o.guard = none) (w' : World) (hr : (execOp a.eval o).run P w = .ok .skip w')
    (hK : K (a.put o.dst undef) w') : if Region.wanted o (yielded ops a.tmps) = true then Oper.wp P o a w K Q else E := by
  have hw : Region.wanted o (yielded ops a.tmps) = true := by simp [Region.wanted, hg]
  rw [if_pos hw]
  unfold Oper.wp
  rw [hr]
  exact hK
end
/- a teller's room: the list's parts lie below; the variable that holds the list, the one that holds the map, the map -/
structure TS9 (w0 w : World) (pl pf m : Nat) (v : Value) (l : List Pt) : Prop where
  row : RowP w0 v l
  all : Below w0.heap.size w0 w
  il : w0.heap.size ≤ pl
  if_ : w0.heap.size ≤ pf
  im : w0.heap.size ≤ m
  bl : w.heap[pl]? = some (.cells #[v] 22 (0, 0))
  bf : w.heap[pf]? = some (.cells #[.map (some m)] 142 (0, 0))
  fm : Fm w m l
theorem TS9.below {w0 w w' : World} {pl pf m : Nat} {v : Value} {l : List Pt} (h : TS9 w0 w pl pf m v l) (hb : Below w.heap.size w w') : TS9 w0 w' pl pf m v l :=
  ⟨h.row, h.all.trans (hb.mono h.all.size), h.il, h.if_, h.im, by rw [hb.block pl (lt_of_block h.bl)]; exact h.bl, by rw [hb.block pf (lt_of_block h.bf)]; exact h.bf, h.fm.at_ (hb.block m h.fm.lt)⟩
theorem TS9.ne {w0 w : World} {pl pf m : Nat} {v : Value} {l : List Pt} (h : TS9 w0 w pl pf m v l) : pl ≠ m ∧ pf ≠ m := by
  obtain ⟨es, cl, hm, _⟩ := h.fm
  refine ⟨fun e => ?_, fun e => ?_⟩
  · subst e; have := h.bl; rw [hm] at this; cases this
  · subst e; have := h.bf; rw [hm] at this; cases this
theorem TS9.keep {w0 w w' : World} {pl pf m : Nat} {v : Value} {l : List Pt} (h : TS9 w0 w pl pf m v l) (hk : Keep (fun j => j ≠ m) w w') (hf : Fm w' m l) : TS9 w0 w' pl pf m v l := by
  obtain ⟨n1, n2⟩ := h.ne
  exact ⟨h.row, h.all.trans ⟨hk.os, hk.tape, hk.output, hk.size, fun k hkB => hk.block k (by have := h.im; show k ≠ m; omega) (Nat.lt_of_lt_of_le hkB h.all.size)⟩, h.il, h.if_, h.im, hk.at n1 h.bl, hk.at n2 h.bf, hf⟩
/- another block's cell is written -/
theorem TS9.set {w0 w : World} {pl pf m : Nat} {v : Value} {l : List Pt} (h : TS9 w0 w pl pf m v l) {p : Addr} (h0 : w0.heap.size ≤ p.block) (h1 : p.block ≠ pl) (h2 : p.block ≠ pf) (h3 : p.block ≠ m) (u : Value) : TS9 w0 (w.setCell p u) pl pf m v l :=
  ⟨h.row, h.all.setCell h0 u, h.il, h.if_, h.im, by rw [heap_setCell_other w p pl u (fun e => h1 e.symm)]; exact h.bl, by rw [heap_setCell_other w p pf u (fun e => h2 e.symm)]; exact h.bf, h.fm.at_ (heap_setCell_other w p m u (fun e => h3 e.symm))⟩
end Go.Proofs.YtnmjcpoobabjgaaGreatDoor
