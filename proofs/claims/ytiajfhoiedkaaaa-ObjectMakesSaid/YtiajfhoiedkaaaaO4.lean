import Derived.Test.YtiajfhoiedkaaaaO3
import Derived.Deep.QuietTactic
import Derived.BigQuiet
import Derived.Deep.WholeRow
import Derived.WalkLawsBesides
/- Rows of entries; whether entries may be: the program's answer, and the reference's. -/
namespace Go.Proofs.Ytiajfhoiedkaaaa
open Go.RowKit Classical
/- a slice of n elements of m cells each, which c tells -/
def Row (w : World) (v : Value) (m : Nat) (c : Nat → Value) (n : Nat) : Prop :=
  (∃ ad cap, v = .slice ad 0 cap ∧ n = 0) ∨ (∃ b o cap, v = .slice (some ⟨b, o, none⟩) n cap ∧ 0 < n ∧ n ≤ cap ∧ b < w.heap.size ∧ ∀ i, i < n * m → w.cell? ⟨b, o + i, none⟩ = some (c i))
theorem row_addr {w : World} {v : Value} {m : Nat} {c : Nat → Value} {n : Nat} (h : Row w v m c n) : ∃ ad cap, v = .slice ad n cap ∧ (0 < n → ∃ b o, ad = some ⟨b, o, none⟩ ∧ b < w.heap.size ∧ At w b o (n * m) c) := by
  rcases h with ⟨ad, cap, rfl, rfl⟩ | ⟨b, o, cap, rfl, h0, _, hb, hc⟩
  · exact ⟨ad, cap, rfl, fun h => absurd h (by omega)⟩
  · exact ⟨_, cap, rfl, fun _ => ⟨b, o, rfl, hb, hc⟩⟩
theorem row_cap {w : World} {ad : Option Addr} {m n cap : Nat} {c : Nat → Value} (h : Row w (.slice ad n cap) m c n) (h0 : 0 < n) : n ≤ cap := by
  rcases h with ⟨ad, cap, e, rfl⟩ | ⟨b, o, cap, e, _, h2, _⟩
  · omega
  · cases e; exact h2
theorem row_of {w : World} {ad : Option Addr} {m n cap : Nat} {c : Nat → Value} (hc : n ≤ cap) (h : 0 < n → ∃ b o, ad = some ⟨b, o, none⟩ ∧ b < w.heap.size ∧ At w b o (n * m) c) : Row w (.slice ad n cap) m c n := by
  by_cases hn : n = 0
  · subst hn; exact Or.inl ⟨_, _, rfl, rfl⟩
  · obtain ⟨b, o, rfl, h2, h3⟩ := h (by omega)
    exact Or.inr ⟨b, o, cap, rfl, by omega, hc, h2, h3⟩
theorem Row.keep {K : Nat → Prop} {W W' : World} {v : Value} {m : Nat} {c : Nat → Value} {n : Nat} (h : Row W v m c n) (hk : Keep K W W') (hK : ∀ g o l cap, v = .slice (some ⟨g, o, none⟩) l cap → K g) : Row W' v m c n := by
  rcases h with h | ⟨b, k, cap, h1, h2, h3, h4, h5⟩
  · exact Or.inl h
  · exact Or.inr ⟨b, k, cap, h1, h2, h3, Nat.lt_of_lt_of_le h4 hk.size, fun i hi => hk.cell (hK _ _ _ _ h1) (h5 i hi)⟩
theorem Row.below {W W' : World} {v : Value} {m : Nat} {c : Nat → Value} {n : Nat} (h : Row W v m c n) (hb : Below W.heap.size W W') : Row W' v m c n := h.keep (K := fun _ => True) (Keep.all hb) (fun _ _ _ _ _ => trivial)
theorem Row.congr {W : World} {v : Value} {m : Nat} {c d : Nat → Value} {n : Nat} (h : Row W v m c n) (e : ∀ i, i < n * m → c i = d i) : Row W v m d n := by
  rcases h with h | ⟨b, k, cap, h1, h2, h3, h4, h5⟩
  · exact Or.inl h
  · exact Or.inr ⟨b, k, cap, h1, h2, h3, h4, fun i hi => by rw [h5 i hi, e i hi]⟩
theorem Row.nil (w : World) (m : Nat) (c : Nat → Value) : Row w (.slice none 0 0) m c 0 := Or.inl ⟨_, _, rfl, rfl⟩
/- the cells of entries, of ids, of children -/
def ec (es : Nat → Ent) (i : Nat) : Value := ev (es (i / 34)) (i % 34)
def pc (p : Nat → Nat → UInt8) (i : Nat) : Value := bv (p (i / 32)) (i % 32)
theorem ec_at (es : Nat → Ent) (k j : Nat) (hj : j < 34) : ec es (k * 34 + j) = ev (es k) j := by
  unfold ec
  rw [show (k * 34 + j) / 34 = k by omega, show (k * 34 + j) % 34 = j by omega]
theorem pc_at (p : Nat → Nat → UInt8) (k j : Nat) (hj : j < 32) : pc p (k * 32 + j) = bv (p k) j := by
  unfold pc
  rw [show (k * 32 + j) / 32 = k by omega, show (k * 32 + j) % 32 = j by omega]
theorem At.ent {w : World} {b o n : Nat} {es : Nat → Ent} (h : At w b o (n * 34) (ec es)) (k : Nat) (hk : k < n) : At w b (o + k * 34) 34 (ev (es k)) :=
  h.part (k * 34) 34 _ (by omega) fun j hj => ec_at es k j hj
theorem At.idk {w : World} {b o n : Nat} {p : Nat → Nat → UInt8} (h : At w b o (n * 32) (pc p)) (k : Nat) (hk : k < n) : At w b (o + k * 32) 32 (bv (p k)) :=
  h.part (k * 32) 32 _ (by omega) fun j hj => pc_at p k j hj
theorem At.one {w : World} {b p n : Nat} {f : Nat → Value} (h : At w b p n f) (j : Nat) (hj : j < n) : w.cell? ⟨b, p + j, none⟩ = some (f j) := h j hj
/- entries that may be, one behind the other -/
def okE (es : Nat → Ent) (k : Nat) : Prop := ∀ i, i < k → nameOk (es i).name ∧ kindOk (es i).kind ∧ (0 < i → Op.bytesLess (es (i - 1)).name (es i).name = true)
theorem entsOk_iff (es : Nat → Ent) (n : Nat) : entsOk es n ↔ n ≤ 32 ∧ okE es n := by
  unfold entsOk okE
  constructor
  · rintro ⟨h1, h2, h3⟩
    refine ⟨h1, fun i hi => ⟨(h2 i hi).1, (h2 i hi).2, fun h0 => ?_⟩⟩
    have := h3 (i - 1) (by omega)
    rwa [show i - 1 + 1 = i by omega] at this
  · rintro ⟨h1, h2⟩
    refine ⟨h1, fun i hi => ⟨(h2 i hi).1, (h2 i hi).2.1⟩, fun i hi => ?_⟩
    have := (h2 (i + 1) hi).2.2 (by omega)
    rwa [show i + 1 - 1 = i by omega] at this
theorem okE_zero (es : Nat → Ent) : okE es 0 := fun i hi => absurd hi (by omega)
theorem okE_succ {es : Nat → Ent} {k : Nat} (h : okE es k) (h1 : nameOk (es k).name) (h2 : kindOk (es k).kind) (h3 : 0 < k → Op.bytesLess (es (k - 1)).name (es k).name = true) : okE es (k + 1) := by
  intro i hi
  by_cases c : i < k
  · exact h i c
  · have e : i = k := by omega
    subst e
    exact ⟨h1, h2, h3⟩
theorem Blk.allocNew (w : World) (cs : Array Value) (E : TypeId) (n : Nat) (f : Nat → Value) (hc : cs = arr n f) : Blk (w.alloc (.cells cs E)) w.heap.size E n f := Blk.new w cs E n f hc
set_option maxHeartbeats 2000000 in
set_option maxRecDepth 100000 in
theorem oents_any (es : Nat → Ent) (v : Value) (n : Nat) (w : World) (hR : Row w v 34 (ec es) n) (hn : n ≤ 140737488355328) (hs : ∀ i, i < n → (es i).name.length ≤ 281474976710656) :
    Calls Try.prog 41 #[v] w fun e w' => e = .returned (.bool (decide (entsOk es n))) ∧ Below w.heap.size w w' := by
  obtain ⟨ad, cap, rfl, ha⟩ := row_addr hR
  have HA := Lib.hid ha
  have HS := Lib.hid hs
  clear ha hs hR
  by_cases h32 : 32 < n
  · have e : decide (entsOk es n) = false := decide_eq_false fun h => by have := h.1; omega
    have t1 : (32 : Int) < (n : Int) := by omega
    rw [e]
    clear h32 e
    go_enter Try.func41, Try.ntmps41
    go_wp2
    go_ret
    exact ⟨rfl, Below.refl _ _⟩
  · have t1 : (n : Int) ≤ 32 := by omega
    have H32 : Hid (n ≤ 32) := by show n ≤ 32; omega
    have bad : Hid (∀ k, k < n → ¬ (nameOk (es k).name ∧ kindOk (es k).kind ∧ (0 < k → Op.bytesLess (es (k - 1)).name (es k).name = true)) → decide (entsOk es n) = false) := fun k hk h => decide_eq_false fun h2 => h (((entsOk_iff es n).1 h2).2 k hk)
    clear h32
    go_enter Try.func41, Try.ntmps41
    go_wp2
    go_loopw [10] (fun i wr => ∃ k : Nat, k ≤ n ∧ i = .int .i64 k ∧ Hid (okE es k) ∧ Hid (Below w.heap.size w wr)) (fun i _ => n - (intOf i).toNat)
    case atStart => exact ⟨0, by omega, rfl, okE_zero es, Below.refl _ _⟩
    case round =>
      obtain ⟨k, hk, rfl, hO, hL⟩ := hrel
      by_cases hlt : k < n
      · obtain ⟨b, o, rfl, hb, hc0⟩ := HA.out (by omega)
        have hb2 : b < wr.heap.size := Nat.lt_of_lt_of_le hb hL.out.size
        have hc : At wr b o (n * 34) (ec es) := hc0.below hL.out hb
        have HC := Lib.hid hc
        have ck := hc.ent k hlt
        have hz := HS.out k hlt
        have zk : (0 : Int) ≤ (k : Int) := by omega
        have yk : (k : Int) < (n : Int) := by omega
        have BAD := Lib.hid (bad.out k hlt)
        have HLT := Lib.hid hlt
        clear hc hc0 hb
        go_upto_region 6 with (first | (refine wpList_val rfl _ _ (ex_load 51 (.tmp 13) rfl b (o + k * 34) 34 (ev (es k)) rfl Try.underlying51 rfl szEntry ck) ?_) | (refine wpList_store_blk rfl 51 (.tmp 4) (.tmp 14) rfl wr.heap.size 34 (ev (es k)) (ev ⟨[], 0, fun _ => 0⟩) rfl rfl 51 (Blk.newAt _ (heap_alloc_new _ _) rfl) szEntry (fun i _ => ev_one _ i) ?_))
        rw [World.setRow_alloc_new]
        have B1 : Blk (wr.alloc (.cells (arr 34 (ev (es k))) 51)) wr.heap.size 51 34 (ev (es k)) := Blk.newAt _ (heap_alloc_new _ _) rfl
        have L1 := Lib.hid (hL.out.alloc hL.out.size (.cells (arr 34 (ev (es k))) 51))
        have HC1 : Hid (At (wr.alloc (.cells (arr 34 (ev (es k))) 51)) b o (n * 34) (ec es)) := HC.out.below ((Below.refl wr.heap.size wr).alloc (Nat.le_refl _) _) hb2
        clear ck HC
        generalize wr.alloc (.cells (arr 34 (ev (es k))) 51) = w2 at B1 L1 HC1 ⊢
        generalize wr.heap.size = zb at B1 hb2 ⊢
        have c0 : w2.cell? ⟨zb, 0, none⟩ = some (.string (bs (es k).name)) := B1.cell 0 (by omega)
        have c1 : w2.cell? ⟨zb, 1, none⟩ = some (.int .i64 (es k).kind) := B1.cell 1 (by omega)
        clear B1
        have N := oname_any (es k).name w2 hz
        have hnm := nmB_iff (es k).name
        clear hz
        by_cases hN : nmB (es k).name = true
        · rw [hN] at N
          have HN := Lib.hid (hnm.1 hN)
          have hlen : (bs (es k).name).size ≤ 32 := by rw [bs_size]; exact HN.out.2.1
          clear hN hnm
          by_cases hK : kindOk (es k).kind
          · have HK := Lib.hid hK
            have hk12 : ((es k).kind != 1) = false ∨ ((es k).kind != 1) = true ∧ ((es k).kind != 2) = false := by rcases hK with h | h <;> rw [h] <;> decide
            clear hK
            have ways : k = 0 ∨ ∃ m, k = m + 1 := by rcases k with _ | m; exact Or.inl rfl; exact Or.inr ⟨m, rfl⟩
            rcases ways with rfl | ⟨m, rfl⟩
            · have O2 := Lib.hid (okE_succ hO.out HN.out HK.out fun h => absurd h (by omega))
              rcases hk12 with d1 | ⟨d1, d2⟩
              all_goals (go_wp2_with fail; refine N.mono ?_; rintro e w3 ⟨rfl, rfl⟩; go_wp2; go_quiet (fail); go_wp2)
              all_goals go_roundw
              all_goals first | exact ⟨1, HLT.out, by go_num, O2, below_drewN L1.out _⟩ | (simp [intOf]; have := HLT.out; omega)
            · have cm : w2.cell? ⟨b, o + m * 34, none⟩ = some (.string (bs (es m).name)) := (HC1.out.ent m (by omega)) 0 (by omega)
              have zm : (0 : Int) ≤ (m : Int) := by omega
              have ym : (m : Int) < (n : Int) := by omega
              have gm : (0 : Int) < ((m + 1 : Nat) : Int) := by omega
              have wm : IntKind.i64.wrap (m : Int) = (m : Int) := IntWalk.i64_in _ (by omega)
              have wm2 : IntKind.i64.wrap ((m : Int) + 1 - 1) = (m : Int) := by rw [show (m : Int) + 1 - 1 = (m : Int) by omega]; exact wm
              by_cases hl : Op.bytesLess (es m).name (es (m + 1)).name = true
              · have O2 := Lib.hid (okE_succ hO.out HN.out HK.out fun _ => hl)
                have bl : Op.bytesLess (bs (es m).name).toList (bs (es (m + 1)).name).toList = true := by rw [toList_bs, toList_bs]; exact hl
                clear hl
                rcases hk12 with d1 | ⟨d1, d2⟩
                all_goals (go_wp2_with fail; refine N.mono ?_; rintro e w3 ⟨rfl, rfl⟩; go_wp2; go_quiet (fail); go_wp2)
                all_goals go_roundw
                all_goals first | exact ⟨m + 1 + 1, HLT.out, by go_num, O2, below_drewN L1.out _⟩ | (simp [intOf]; have := HLT.out; omega)
              · have bl : Op.bytesLess (bs (es m).name).toList (bs (es (m + 1)).name).toList = false := by rw [toList_bs, toList_bs]; simpa using hl
                have E := Lib.hid (BAD.out fun h => hl (h.2.2 (by omega)))
                clear hl
                rcases hk12 with d1 | ⟨d1, d2⟩
                all_goals (go_wp2_with fail; refine N.mono ?_; rintro e w3 ⟨rfl, rfl⟩; go_wp2; go_quiet (fail); go_wp2)
                all_goals go_ret
                all_goals rw [E.out]
                all_goals exact ⟨rfl, below_drewN L1.out _⟩
          · have d1 : ((es k).kind != 1) = true := by
              have : ¬ (es k).kind = 1 := fun h => hK (Or.inl h)
              simpa using this
            have d2 : ((es k).kind != 2) = true := by
              have : ¬ (es k).kind = 2 := fun h => hK (Or.inr h)
              simpa using this
            have E := Lib.hid (BAD.out fun h => hK h.2.1)
            clear hK
            go_wp2_with fail
            refine N.mono ?_
            rintro e w3 ⟨rfl, rfl⟩
            go_wp2
            go_ret
            rw [E.out]
            exact ⟨rfl, L1.out⟩
        · have hN2 : nmB (es k).name = false := by simpa using hN
          rw [hN2] at N
          have E := Lib.hid (BAD.out fun h => hN (hnm.2 h.1))
          clear hN hN2 hnm
          go_wp2_with fail
          refine N.mono ?_
          rintro e w3 ⟨rfl, rfl⟩
          go_wp2
          go_ret
          rw [E.out]
          exact ⟨rfl, L1.out⟩
      · have ek : k = n := by omega
        subst ek
        have E := Lib.hid (decide_eq_true ((entsOk_iff es k).2 ⟨H32.out, hO.out⟩))
        have yk : (k : Int) ≤ (k : Int) := by omega
        clear hlt
        go_wp2
        go_ret
        rw [E.out]
        exact ⟨rfl, hL.out⟩
end Go.Proofs.Ytiajfhoiedkaaaa
