import Derived.Test.YtnfhnkplkbpmpaaDoorW9
namespace Go.Proofs.YtnfhnkplkbpmpaaDoor
open Go.RowKit
def uok (s : ByteArray) : Bool := decide (s.size = 64) && okF (sAt s) 32
def uh (s : ByteArray) (i : Nat) : UInt8 := if uok s = true then unhexAt (sAt s) i else 0
theorem idx_str (s : ByteArray) (i : Nat) (h : i < s.size) (w : World) : (Instr.index 9 (.string s) (.int .i64 (i : Int))).run Tryd.prog w = .ok (.int .u8 ((sAt s i).toNat : Int)) w := by
  have hs : s.data.size = s.size := rfl
  have e : sAt s i = s[i] := by
    unfold sAt
    rw [List.getD_eq_getElem?_getD, Array.getElem?_toList, Array.getElem?_eq_getElem (by omega)]; rfl
  rw [e]
  have hai : (asIntOf (.int .i64 (i : Int))).run Tryd.prog w = .ok (.i64, (i : Int)) w := rfl
  simp [Instr.index, run_underlying ty9, hai, h]
theorem results_blk_slot {P : Program} {fn : Func} {p q : Tmp} {ty : TypeId} (h : fn.results = #[.cell p ty, .tmp q]) (tmps : Array Value) (w : World) (g : Nat) (E : TypeId) (n : Nat) (f : Nat → Value) (hB : Blk w g E n f) (d : TypeDesc) (v : Value)
    (hp : tmps.getD p undef = .pointer (some ⟨g, 0, none⟩)) (hq : tmps.getD q undef = v)
    (hu : P.underlying ty = some d) (hd : d.isRow = true) (hi : (P.info? ty).map (·.size) = some n) :
    (results fn tmps).run P w = .ok (.tuple #[.agg (arr n f), v]) w := by
  have hr := hB.range 0 n (by omega)
  rw [show (arr n fun i => f (0 + i)) = arr n f from arr_congr fun i _ => by rw [Nat.zero_add]] at hr
  have hl := run_loadVar_mid (P := P) w g 0 ty (arr n f).toList d hr hu hd (by rw [Array.length_toList, arr_size]; exact hi)
  rw [Array.toArray_toList] at hl
  have hp' : tmps[p]?.getD undef = .pointer (some ⟨g, 0, none⟩) := by simpa using hp
  have hq' : tmps[q]?.getD undef = v := by simpa using hq
  simp [results, h, hp', hq', asAddr, hl]
set_option maxHeartbeats 1000000 in
set_option maxRecDepth 100000 in
theorem unhex_any (s : ByteArray) (w : World) (hs : s.size ≤ 1073741824) :
    Calls Tryd.prog 16 #[.string s] w fun e w' => e = .returned (.tuple #[.agg (arr 32 (bv (uh s))), .bool (uok s)]) ∧ Below w.heap.size w w' := by
  by_cases h64 : s.size = 64
  · have H64 := Lib.hid h64
    have b64 : (((s.size : Nat) : Int) != 64) = false := by rw [h64]; rfl
    have hsz : (64 : Int) ≤ ((s.size : Nat) : Int) := by omega
    clear h64
    go_enter Tryd.func16, Tryd.ntmps16
    go_wp2
    go_loopw [14] (fun i wr => ∃ (k : Nat) (g : Nat → UInt8), k ≤ 32 ∧ i = .int .i64 k ∧ Blk wr (w.heap.size + 1) 26 32 (bv g) ∧ (∀ j, j < k → g j = unhexAt (sAt s) j) ∧ (∀ j, j < 2 * k → hok (sAt s j) = true) ∧ Blk wr w.heap.size 26 32 (bv fun _ => 0) ∧ Below w.heap.size w wr)
      (fun i _ => 32 - (intOf i).toNat)
    case atStart => exact ⟨0, fun _ => 0, by omega, rfl, Blk.newAt _ (heap_alloc2_new w _ _) (by rfl), fun j hj => absurd hj (by omega), fun j hj => absurd hj (by omega), Blk.newAt _ (heap_alloc2_old w _ _) (by rfl), ((Below.refl _ _).alloc (Nat.le_refl _) _).alloc (by simp) _⟩
    case round =>
      obtain ⟨k, g, hk, rfl, hB, hg, ho, hR, hbl⟩ := hrel
      have G := Lib.hid hg
      have O := Lib.hid ho
      clear hg ho
      by_cases hlt : k < 32
      · obtain ⟨c1, hc1⟩ : ∃ c, sAt s (2 * k) = c := ⟨_, rfl⟩
        obtain ⟨c2, hc2⟩ : ∃ c, sAt s (2 * k + 1) = c := ⟨_, rfl⟩
        have i1 := idx_str s (2 * k) (by have := H64.out; omega)
        have i2 := idx_str s (2 * k + 1) (by have := H64.out; omega)
        rw [hc1] at i1
        rw [hc2] at i2
        have p1 : ((2 * k : Nat) : Int) = 2 * (k : Int) := by omega
        have p2 : ((2 * k + 1 : Nat) : Int) = 2 * (k : Int) + 1 := by omega
        simp only [p1] at i1
        simp only [p2] at i2
        have Hc1 := Lib.hid hc1
        have Hc2 := Lib.hid hc2
        clear hc1 hc2 p1 p2
        have hno : hok c1 = false ∨ hok c2 = false → uok s = false := fun h => by
          unfold uok
          rw [Bool.and_eq_false_iff]
          right
          cases hq : okF (sAt s) 32
          · rfl
          · rw [okF_iff] at hq
            rcases h with h | h
            · rw [← Hc1.out, hq _ (by omega)] at h; cases h
            · rw [← Hc2.out, hq _ (by omega)] at h; cases h
        have HNO := Lib.hid hno
        clear hno
        cases h1 : hok c1
        · go_wp2_with fail
          refine (half_any c1 _).mono ?_
          rw [h1]
          rintro e w' ⟨rfl, rfl⟩
          go_wp2_with fail
          refine (half_any c2 _).mono ?_
          rintro e w' ⟨rfl, rfl⟩
          have hR2 := hR.setRow (bv fun _ => 0)
          have hb2 := below_setRow hbl (Nat.le_refl _) (arr 32 (bv fun _ => 0))
          go_wp2_with (refine wpList_store_blk rfl 26 (.tmp 2) (.tmp 40) rfl w.heap.size 32 (bv fun _ => 0) (bv fun _ => 0) rfl rfl 26 hR sz26 (fun _ _ => rfl) ?_)
          generalize wr.setRow w.heap.size (arr 32 (bv fun _ => 0)) = w3 at hR2 hb2 ⊢
          refine bodyPost_ret (v := .tuple #[.agg (arr 32 (bv fun _ => 0)), .bool false]) (results_blk_slot rfl _ _ w.heap.size 26 32 _ hR2 _ _ rfl rfl ty26 rfl sz26) rfl ⟨?_, hb2⟩
          have hu := HNO.out (Or.inl h1)
          have e : uh s = fun _ => 0 := funext fun i => by unfold uh; rw [hu]; rfl
          rw [hu, e]
        · cases h2 : hok c2
          · go_wp2_with fail
            refine (half_any c1 _).mono ?_
            rw [h1]
            rintro e w' ⟨rfl, rfl⟩
            go_wp2_with fail
            refine (half_any c2 _).mono ?_
            rw [h2]
            rintro e w' ⟨rfl, rfl⟩
            have hR2 := hR.setRow (bv fun _ => 0)
            have hb2 := below_setRow hbl (Nat.le_refl _) (arr 32 (bv fun _ => 0))
            go_wp2_with (refine wpList_store_blk rfl 26 (.tmp 2) (.tmp 40) rfl w.heap.size 32 (bv fun _ => 0) (bv fun _ => 0) rfl rfl 26 hR sz26 (fun _ _ => rfl) ?_)
            generalize wr.setRow w.heap.size (arr 32 (bv fun _ => 0)) = w3 at hR2 hb2 ⊢
            refine bodyPost_ret (v := .tuple #[.agg (arr 32 (bv fun _ => 0)), .bool false]) (results_blk_slot rfl _ _ w.heap.size 26 32 _ hR2 _ _ rfl rfl ty26 rfl sz26) rfl ⟨?_, hb2⟩
            have hu := HNO.out (Or.inr h2)
            have e : uh s = fun _ => 0 := funext fun i => by unfold uh; rw [hu]; rfl
            rw [hu, e]
          · have l1 := hx_lt c1
            have l2 := hx_lt c2
            have cB := hB.cell k hlt
            have fB := hB.frozen k
            go_wp2_with fail
            refine (half_any c1 _).mono ?_
            rw [h1]
            rintro e w' ⟨rfl, rfl⟩
            go_wp2_with fail
            refine (half_any c2 _).mono ?_
            rw [h2]
            rintro e w' ⟨rfl, rfl⟩
            go_wp2
            go_roundw
            case rel =>
              refine ⟨k + 1, fun j => if j = k then unhexAt (sAt s) k else g j, by omega, by go_num, ?_, ?_, ?_, hR.setOther _ _ (by simp), hbl.setCell (by simp) _⟩
              · refine (hB.set k _).congr fun i hi => ?_
                unfold bv
                dsimp only
                by_cases c : i = k
                · rw [if_pos c, if_pos c, or_half2 _ l1 _ l2, unhexAt_nat, Hc1.out, Hc2.out]
                · rw [if_neg c, if_neg c]
              · intro j hj
                dsimp only
                by_cases c : j = k
                · rw [if_pos c, c]
                · rw [if_neg c]; exact G.out j (by omega)
              · intro j hj
                by_cases c : j < 2 * k
                · exact O.out j c
                · by_cases c2 : j = 2 * k
                  · rw [c2, Hc1.out]; exact h1
                  · rw [show j = 2 * k + 1 by omega, Hc2.out]; exact h2
            case measure => simp [intOf]; omega
      · have e : Hid (k = 32) := by show k = 32; omega
        have hR2 := hR.setRow (bv g)
        have hb2 := below_setRow hbl (Nat.le_refl _) (arr 32 (bv g))
        go_wp2_with (first | (refine wpList_load_blk rfl 26 (.tmp 4) rfl (w.heap.size + 1) rfl 26 32 (bv g) hB _ ty26 rfl sz26 ?_) | (refine wpList_store_blk rfl 26 (.tmp 2) (.tmp 48) rfl w.heap.size 32 (bv g) (bv fun _ => 0) rfl rfl 26 hR sz26 (fun _ _ => rfl) ?_))
        generalize wr.setRow w.heap.size (arr 32 (bv g)) = w3 at hR2 hb2 ⊢
        refine bodyPost_ret (v := .tuple #[.agg (arr 32 (bv g)), .bool true]) (results_blk_slot rfl _ _ w.heap.size 26 32 _ hR2 _ _ rfl rfl ty26 rfl sz26) rfl ⟨?_, hb2⟩
        have ek := e.out
        have hu : uok s = true := by
          unfold uok
          rw [Bool.and_eq_true]
          exact ⟨decide_eq_true H64.out, (okF_iff _ _).2 fun i hi => O.out i (by omega)⟩
        rw [hu]
        exact congrArg (fun a => Ending.returned (.tuple #[.agg a, .bool true])) (arr_congr fun i hi => by unfold bv uh; rw [if_pos hu, G.out i (by omega)])
  · have b64 : (((s.size : Nat) : Int) != 64) = true := by rw [bne_iff_ne]; omega
    have hu : uok s = false := by unfold uok; rw [decide_eq_false h64]; rfl
    have e : uh s = fun _ => 0 := funext fun i => by unfold uh; rw [hu]; rfl
    rw [hu, e]
    clear h64 hu e
    have R0 : ∀ A, Blk ((w.alloc (.cells (arr 32 (bv fun _ => 0)) 26)).alloc A) w.heap.size 26 32 (bv fun _ => 0) := fun A => Blk.newAt _ (heap_alloc2_old w _ _) rfl
    have L0 : ∀ A B, Below w.heap.size w ((w.alloc A).alloc B) := fun A B => ((Below.refl _ _).alloc (Nat.le_refl _) _).alloc (by simp) _
    go_enter Tryd.func16, Tryd.ntmps16
    go_wp2_with (refine wpList_store_blk rfl 26 (.tmp 2) (.tmp 13) rfl w.heap.size 32 (bv fun _ => 0) (bv fun _ => 0) rfl rfl 26 (R0 _) sz26 (fun _ _ => rfl) ?_)
    have hR2 := (R0 (.cells (arr 32 (bv fun _ => 0)) 26)).setRow (bv fun _ => 0)
    have hb2 := below_setRow (L0 (.cells (arr 32 (bv fun _ => 0)) 26) (.cells (arr 32 (bv fun _ => 0)) 26)) (Nat.le_refl _) (arr 32 (bv fun _ => 0))
    exact bodyPost_ret (v := .tuple #[.agg (arr 32 (bv fun _ => 0)), .bool false]) (results_blk_slot rfl _ _ w.heap.size 26 32 _ hR2 _ _ rfl rfl ty26 rfl sz26) rfl ⟨rfl, hb2⟩
end Go.Proofs.YtnfhnkplkbpmpaaDoor
