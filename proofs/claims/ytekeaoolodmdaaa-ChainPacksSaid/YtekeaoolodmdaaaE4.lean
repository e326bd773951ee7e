import Derived.Test.YtekeaoolodmdaaaSh
import Derived.Test.YtekeaoolodmdaaaV1m
import Derived.Lib.Builder
import Derived.Laws.Externs
import Derived.WalkLawsBesides
/- What is written to a strings.Builder. -/
namespace Go.Proofs.Ytekeaoolodmdaaa
open Go.RowKit
theorem u94 : Try.prog.underlying 136 = some (.pointer 138) := by kernel_rfl
theorem uUp : Try.prog.underlying 148 = some .unsafePointer := by kernel_rfl
theorem szB : (Try.prog.info? 138).map (·.size) = some 2 := by kernel_rfl
theorem liesB : liesAt Try.prog Try.prog.depth 138 (2 / Try.prog.cellsOf 138) 0 138 1 = true := by kernel_rfl
set_option maxHeartbeats 1000000 in
set_option maxRecDepth 100000 in
theorem check_used (b : Nat) (w : World) (h0 : w.cell? ⟨b, 0, none⟩ = some (.pointer (some ⟨b, 0, none⟩))) :
    Calls Try.prog 85 #[.pointer (some ⟨b, 0, none⟩)] w fun e w' => e = .returned (.tuple #[]) ∧ w' = w := by
  obtain ⟨j, hj, _⟩ := Option.map_eq_some_iff.1 szB
  go_enter Try.func85, Try.ntmps85
  go_wp2
  rw [Lib.run_neq_ptr_same w _ u94 hj]
  go_wp2
  go_end0
  exact ⟨rfl, rfl⟩
set_option maxHeartbeats 1000000 in
set_option maxRecDepth 100000 in
theorem check_fresh (b : Nat) (w : World) (h0 : w.cell? ⟨b, 0, none⟩ = some (.pointer none)) (hsh : w.shape? b = some (138, 2)) (hfz : w.frozen? ⟨b, 0, none⟩ = false) :
    Calls Try.prog 85 #[.pointer (some ⟨b, 0, none⟩)] w fun e w' => e = .returned (.tuple #[]) ∧ w' = w.setCell ⟨b, 0, none⟩ (.pointer (some ⟨b, 0, none⟩)) := by
  obtain ⟨j, hj, hjs⟩ := Option.map_eq_some_iff.1 szB
  have r1 := Lib.run_to_unsafe (P := Try.prog) w ⟨b, 0, none⟩ u94 uUp hj (by rw [hjs]; decide) hsh (Nat.zero_lt_succ 1)
  have r3 := Lib.run_from_unsafe (P := Try.prog) w ⟨b, 0, none⟩ uUp u94 hj hsh liesB
  have r2 : ∀ x : Value, (callFunc 88 #[x]).run Try.prog w = .ok (.value x) w := fun x => by
    rw [run_callFunc_extern Try.func88 (by kernel_rfl) (by kernel_rfl) (by kernel_rfl) (e := Extern.AbiNoEscape.same) (by kernel_rfl), Lib.run_noEscape]
    rfl
  go_enter Try.func85, Try.ntmps85
  go_wp2
  go_end0
  exact ⟨rfl, rfl⟩
theorem check_any {B b : Nat} {l : List Value} {w : World} (h : Lib.IsBuilder 138 5 B b l w) :
    Calls Try.prog 85 #[.pointer (some ⟨b, 0, none⟩)] w fun e w' => e = .returned (.tuple #[]) ∧ Lib.BuilderAt 138 5 B b (.pointer (some ⟨b, 0, none⟩)) l w' ∧ Below B w w' := by
  rcases h with h | h
  · refine (check_fresh b w h.cell0 h.shape h.frozen0).mono ?_
    rintro e w' ⟨rfl, rfl⟩
    exact ⟨rfl, h.used _, (Below.refl B w).setCell (p := ⟨b, 0, none⟩) h.1 _⟩
  · refine (check_used b w h.cell0).mono ?_
    rintro e w' ⟨rfl, rfl⟩
    exact ⟨rfl, h, Below.refl B _⟩
set_option maxHeartbeats 1000000 in
set_option maxRecDepth 100000 in
/- bytes written behind those that are there -/
theorem bwrite_any {B b : Nat} {l s : List UInt8} {w : World} (h : Lib.IsBuilder 138 5 B b (cbs l) w) (hlen : l.length + s.length ≤ 140737488355328) (hBw : B ≤ w.heap.size) :
    Calls Try.prog 80 #[.pointer (some ⟨b, 0, none⟩), .string (bs s)] w fun e w' => e = .returned (.tuple #[.int .i64 (bs s).size, .nilIface]) ∧ Lib.IsBuilder 138 5 B b (cbs (l ++ s)) w' ∧ Below B w w' := by
  have C1 := check_any h
  obtain ⟨sb, hsb⟩ : ∃ sb, sb = bs s := ⟨_, rfl⟩
  have hz : sb.size = s.length := by rw [hsb, bs_size]
  have hc := strCells_bs s
  rw [← hsb] at hc ⊢
  go_enter Try.func80, Try.ntmps80
  go_wp2_with fail
  refine C1.mono ?_
  rintro e w1 ⟨rfl, h1, L1⟩
  obtain ⟨hB, v, hbk, hown, hne⟩ := h1
  have z1 := L1.size
  obtain ⟨v', w2, hr, ho, hg, hat⟩ := app_str_at w1 v l.length (cbs l) (by
    have := hown
    rw [cbs_length] at this
    exact ⟨this.1, this.2.imp id fun ⟨g, cap, cur, a, c, d⟩ => ⟨g, cap, cur, a, Nat.zero_le _, d⟩⟩) sb (by rw [hz]; exact hlen)
  obtain ⟨ad, cap, rfl⟩ := owns_shape ho
  have c0 : w1.cell? ⟨b, 0, none⟩ = some (.pointer (some ⟨b, 0, none⟩)) := by rw [Lib.cell_of_heap hbk]; rfl
  have c1 : w1.cell? ⟨b, 1, none⟩ = some v := by rw [Lib.cell_of_heap hbk]; rfl
  have hlt : b < w1.heap.size := lt_of_block hbk
  have hb2 : w2.heap[b]? = some (.cells #[.pointer (some ⟨b, 0, none⟩), v] 138 (0, 0)) := by
    rw [hg.block b hlt (fun e => hne e.symm)]
    exact hbk
  have hB2 : ∀ k, v.ownBlock = some k → B ≤ k := fun k hk => (hown.lt k hk).1
  have d0 : w2.cell? ⟨b, 0, none⟩ = some (.pointer (some ⟨b, 0, none⟩)) := by rw [Lib.cell_of_heap hb2]; rfl
  have d1 : w2.cell? ⟨b, 1, none⟩ = some v := by rw [Lib.cell_of_heap hb2]; rfl
  have f1 : w2.frozen? ⟨b, 1, none⟩ = false := Lib.frozen_of_heap hb2 1
  have L2 : Below B w1 w2 := (Below.refl B w1).grown hg (by omega) (fun k hk => hB2 k hk)
  have ho2 : w2.ownsRow B 5 1 (.slice ad (l.length + sb.size) cap) (cbs (l ++ s)).length (cbs (l ++ s)) := by
    rw [cbs_length, List.length_append, cbs_append, ← hc, ← hz]
    refine ⟨ho.1, ho.2.imp id fun ⟨g, cp, cur, a, c, d⟩ => ⟨g, cp, cur, a, ?_, d⟩⟩
    rcases hat with e | e
    · rw [a] at e
      exact hB2 g e.symm
    · rw [a] at e
      simp only [Value.ownBlock, Option.some.injEq] at e
      omega
  have E1 := Lib.hid (Lib.BuilderAt.put (T := 138) (e := 5) hB hb2 ho2 (by decide))
  have E2 := Lib.hid ((L1.trans L2).setCell (p := ⟨b, 1, none⟩) hB (.slice ad (l.length + sb.size) cap))
  clear hB hbk hown hne z1 ho hg hat hlt hb2 hB2 L2 ho2 L1 C1 h hc hz hsb hlen
  go_wp2_with (at_builtin; refine wpList_append_run rfl (.tmp 12) (.tmp 13) 89 9 rfl _ _ _ _ rfl rfl hr ?_)
  go_wp2
  go_ret2
  exact ⟨rfl, Or.inr E1.out, E2.out⟩
theorem bstring_any {B b : Nat} {l : List UInt8} {w : World} (h : Lib.IsBuilder 138 5 B b (cbs l) w) (hBw : B ≤ w.heap.size) :
    Calls Try.prog 81 #[.pointer (some ⟨b, 0, none⟩)] w fun e w' => e = .returned (.string (bs l)) ∧ Below B w w' := by
  have e : cbs l = Lib.byteCells l := by simp [Lib.byteCells, cbs]; intro b _; rfl
  rw [e] at h
  exact Builder_String_any B b l w h hBw
end Go.Proofs.Ytekeaoolodmdaaa
