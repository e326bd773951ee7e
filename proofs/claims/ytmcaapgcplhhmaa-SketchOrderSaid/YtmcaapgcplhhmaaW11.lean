import Derived.Test.YtmcaapgcplhhmaaW10
/- Order. -/
namespace Go.Proofs.Ytmcaapgcplhhmaa
open Go.RowKit
attribute [local go_sem] run_store_complex
def slen : Value → Nat
  | .slice _ n _ => n
  | _ => 0
set_option maxHeartbeats 1000000 in
theorem order_none (ad : Option Addr) (cap : Nat) (w : World) :
    Calls Try.prog 20 #[.slice ad 0 cap] w fun e w' => e = .returned (.slice none 0 0) ∧ w = w' := by
  go_enter Try.func20, Try.ntmps20
  go_wp2
  go_ret
  exact ⟨rfl, rfl⟩
theorem arr_self (c : Array Value) (n : Nat) (h : c.size = n) : c = arr n (fun j => c.getD j undef) := by
  unfold arr
  apply Array.ext
  · simp [h]
  · intro i h1 h2
    simp [Array.getD, h1]
/- a row of the call's own, that is no nil one, as a block -/
theorem owns_blk {w : World} {B : Nat} {e : TypeId} {m n : Nat} {v : Value} {c : Nat → Value} (h : w.ownsRow B e m v n (arr (n * m) c).toList) (hn : v ≠ .slice none 0 0) :
    ∃ g cap f, v = .slice (some ⟨g, 0, none⟩) n cap ∧ B ≤ g ∧ n ≤ cap ∧ cap ≤ 9223372036854775807 ∧ Blk w g e (cap * m) f ∧ ∀ i, i < n * m → f i = c i := by
  rcases h.2 with ⟨h1, _⟩ | ⟨g, cap, cur, rfl, hb, hg, h2, h3, h4, h5⟩
  · exact absurd h1 hn
  · refine ⟨g, cap, fun j => cur.getD j undef, rfl, hb, h2, by unfold maxLen at h3; exact h3, ?_, fun i hi => ?_⟩
    · unfold Blk
      rw [hg, ← arr_self cur _ h4]
    · have e1 : (arr (n * m) c).toList[i]? = some (c i) := by rw [Array.getElem?_toList]; exact arr_get _ _ _ hi
      rw [← h5, List.getElem?_take, if_pos hi, Array.getElem?_toList] at e1
      show cur.getD i undef = _
      rw [Array.getD_eq_getD_getElem?, e1]; rfl
/- what holds when m + 1 places stand and r are left -/
structure Stand (gs : Nat → Nat → Int) (w : World) (n m r g3 cap3 z : Nat) (wr : World) : Prop where
  fo : ∃ f, Blk wr w.heap.size 3 (n + 1) f ∧ ∀ i, i < m + 1 → f i = inc (pl (dist gs) (n + 1)) i
  fp : ∃ f, Blk wr (w.heap.size + 1) 3 n f ∧ ∀ i, i < r → f i = inc (lp (dist gs) (n + 1) m) i
  fl : ∃ f, Blk wr g3 28 (cap3 * 4) f ∧ ∀ i, i < r * 4 → f i = skc (fun t => gs (lp (dist gs) (n + 1) m t)) i
  fz : Blk wr z 28 4 (sv (gs (pl (dist gs) (n + 1) m)))
  lo : Below w.heap.size w wr
  h1 : w.heap.size + 1 < g3
  h2 : g3 < z
theorem Stand.keep {gs : Nat → Nat → Int} {w : World} {n m r g3 cap3 z : Nat} {wr w' : World} (h : Stand gs w n m r g3 cap3 z wr) (hb : Below wr.heap.size wr w') : Stand gs w n m r g3 cap3 z w' := by
  obtain ⟨⟨fo, hO, hfo⟩, ⟨fp, hP, hfp⟩, ⟨fl, hF, hfl⟩, hZ, hL, n1, n2⟩ := h
  exact ⟨⟨fo, hO.below hb hO.lt, hfo⟩, ⟨fp, hP.below hb hP.lt, hfp⟩, ⟨fl, hF.below hb hF.lt, hfl⟩, hZ.below hb hZ.lt, hL.trans (hb.mono hL.size), n1, n2⟩
theorem keep_low {g B : Nat} {a c : World} (h : Keep (fun k => k ≠ g) a c) (hB : B ≤ g) (hs : B ≤ a.heap.size) : Below B a c :=
  ((h.mono (fun k hk _ => (show k ≠ g from fun e => by have : k < B := hk; omega))) : Keep (· < B) a c).below hs
set_option maxHeartbeats 4000000 in
theorem order_some (gs : Nat → Nat → Int) (b o cap n : Nat) (w : World) (hgs : ∀ i, i < n + 1 → Ok (gs i)) (hl : n ≤ 100) (hb : b < w.heap.size) (hcap : n + 1 ≤ cap) (hc : ∀ i, i < (n + 1) * 4 → w.cell? ⟨b, o + i, none⟩ = some (skc gs i)) :
    Calls Try.prog 20 #[.slice (some ⟨b, o, none⟩) (n + 1) cap] w fun e w' => ∃ g, e = .returned (.slice (some ⟨g, 0, none⟩) (n + 1) (n + 1)) ∧ Row w' (.slice (some ⟨g, 0, none⟩) (n + 1) (n + 1)) 1 (inc (pl (dist gs) (n + 1))) (n + 1) ∧ Below w.heap.size w w' := by
  have HC := Lib.hid hc
  have HG := Lib.hid hgs
  have HBb := Lib.hid hb
  clear hc hgs hb
  have mk1 := make_int w 1 (n + 1) (by omega) (by omega)
  rw [show ((1 : Nat) : Int) = 1 from rfl, show ((n + 1 : Nat) : Int) = (n : Int) + 1 by omega] at mk1
  have w1s : IntKind.i64.wrap ((n : Int) + 1 - 1) = (n : Int) := by rw [show (n : Int) + 1 - 1 = (n : Int) by omega]; exact IntWalk.i64_in _ (by omega)
  have w1s' : (n : Int) + 1 - 1 = (n : Int) := by omega
  obtain ⟨W1, hW1⟩ : ∃ W1, W1 = w.alloc (.cells (arr (n + 1) (fun _ => .int .i64 0)) 3) := ⟨_, rfl⟩
  have mk2 := make_int W1 0 n (by omega) (by omega)
  rw [show ((0 : Nat) : Int) = 0 from rfl] at mk2
  obtain ⟨W2, hW2⟩ : ∃ W2, W2 = W1.alloc (.cells (arr n (fun _ => .int .i64 0)) 3) := ⟨_, rfl⟩
  have HA : Hid (Blk W2 w.heap.size 3 (n + 1) (fun _ => .int .i64 0) ∧ Blk W2 (w.heap.size + 1) 3 n (fun _ => .int .i64 0) ∧ Below w.heap.size w W2) := by
    rw [hW2, hW1]
    exact two_new w rfl rfl
  have es : W1.heap.size = w.heap.size + 1 := by rw [hW1]; simp
  rw [← hW1] at mk1
  rw [es, ← hW2] at mk2
  clear hW1 hW2 es
  have ne0 : ¬ ((n : Int) + 1 = 0) := by omega
  go_enter Try.func20, Try.ntmps20
  go_wp2
  clear mk1 mk2 w1s w1s' ne0
  go_loopw [4, 5] (fun p i wr => ∃ (q : Nat) (f : Nat → Value), q ≤ n ∧ i = .int .i64 ((q : Int) + 1) ∧ p = .slice (some ⟨w.heap.size + 1, 0, none⟩) q n ∧ Hid (∀ i, i < q → f i = .int .i64 ((i + 1 : Nat) : Int)) ∧ Hid (Blk wr w.heap.size 3 (n + 1) (fun _ => .int .i64 0)) ∧ Hid (Blk wr (w.heap.size + 1) 3 n f) ∧ Hid (Below w.heap.size w wr)) (fun _ i _ => n + 1 - (intOf i).toNat)
  case atStart => exact ⟨0, _, by omega, rfl, rfl, (fun i hi => by omega), HA.out.1, HA.out.2.1, HA.out.2.2⟩
  case round =>
    clear HA
    obtain ⟨q, f, hq, rfl, rfl, hF, hB0, hB1, hL⟩ := hrel
    by_cases hlt : q < n
    · have yq : (q : Int) + 1 < (n : Int) + 1 := by omega
      obtain ⟨w', hap, hB, hK⟩ := app_int (n := q) hB1.out ((q : Int) + 1) hlt
      have H0 := Lib.hid (hK.blk (show w.heap.size ≠ w.heap.size + 1 by omega) hB0.out)
      have H1 := Lib.hid hB
      have H2 := Lib.hid (hL.out.trans ((hK.mono (fun k hk _ => (show k ≠ w.heap.size + 1 from fun e => by have : k < w.heap.size := hk; omega)) : Keep (· < w.heap.size) wr w').below hL.out.size))
      have HF : Hid (∀ i, i < q + 1 → (if i = q then Value.int .i64 ((q : Int) + 1) else f i) = .int .i64 ((i + 1 : Nat) : Int)) := fun i hi => by
        by_cases c : i = q
        · subst c; rw [if_pos rfl]; rfl
        · rw [if_neg c]; exact hF.out i (by omega)
      clear hB0 hB1 hL hB hK hF
      go_wp2_with (at_builtin; refine wpList_append_run rfl (.tmp 25) (.tmp 27) 44 44 rfl _ _ _ _ rfl rfl hap ?_)
      clear hap
      go_roundw
      case rel => exact ⟨q + 1, _, by omega, by go_num, rfl, HF, H0, H1, H2⟩
      case measure => simp [intOf]; omega
    · have e : q = n := by omega
      subst e
      have HF : Hid (∀ i, i < q → f i = inc (lp (dist gs) (q + 1) 0) i) := fun i hi => by
        rw [hF.out i (by omega)]
        unfold inc
        rw [lp_zero _ _ _ (by omega)]
      clear hF
      obtain ⟨o', hA, hsrc⟩ : ∃ o', (if cap = 1 then some (⟨b, o, none⟩ : Addr) else some ⟨b, o + 4, none⟩) = some ⟨b, o', none⟩ ∧ Hid (∀ j u, (arr (q * 4) (fun t => skc gs (4 + t))).toList[j]? = some u → wr.cell? ⟨b, o' + j, none⟩ = some u) := by
        by_cases c : cap = 1
        · refine ⟨o, by rw [if_pos c], fun j u hu => ?_⟩
          have h0 : (arr (q * 4) (fun t => skc gs (4 + t))).toList.length = 0 := by rw [Array.length_toList, arr_size]; omega
          rw [List.length_eq_zero_iff.1 h0] at hu
          simp at hu
        · refine ⟨o + 4, by rw [if_neg c], fun j u hu => ?_⟩
          have ht : j < q * 4 := by
            have := (List.getElem?_eq_some_iff.1 hu).1
            rwa [Array.length_toList, arr_size] at this
          rw [Array.getElem?_toList, arr_get _ _ _ ht] at hu
          rw [hL.out.cell HBb.out, Nat.add_assoc, HC.out (4 + j) (by omega)]
          exact hu
      have hsv : Hid (∀ u ∈ (arr (q * 4) (fun t => skc gs (4 + t))).toList, u.oneCell' = true) := fun u hu => by
        rw [Array.mem_toList_iff] at hu
        unfold arr at hu
        rw [Array.mem_ofFn] at hu
        obtain ⟨i, rfl⟩ := hu
        rfl
      have c0 : Hid (wr.cell? ⟨b, o, none⟩ = some (.complex .f64 (FB (gs 0 0)) (FB (gs 0 1))) ∧ wr.cell? ⟨b, o + 1, none⟩ = some (.complex .f64 (FB (gs 0 2)) (FB (gs 0 3))) ∧ wr.cell? ⟨b, o + 2, none⟩ = some (.complex .f64 (FB (gs 0 4)) (FB (gs 0 5))) ∧ wr.cell? ⟨b, o + 3, none⟩ = some (.complex .f64 (FB (gs 0 6)) (FB (gs 0 7)))) := by
        refine ⟨?_, ?_, ?_, ?_⟩
        · rw [hL.out.cell HBb.out]; exact HC.out 0 (by omega)
        · rw [hL.out.cell HBb.out]; exact HC.out 1 (by omega)
        · rw [hL.out.cell HBb.out]; exact HC.out 2 (by omega)
        · rw [hL.out.cell HBb.out]; exact HC.out 3 (by omega)
      clear hlt hq HC
      go_wp2_with fail
      refine (clone_any b o' q (cap - 1) _ wr (by rw [Array.length_toList, arr_size]) (by omega) hsrc.out hsv.out).mono ?_
      rintro e w6 ⟨vl, rfl, hown, hnil, hb6⟩
      obtain ⟨g3, cap3, fl, rfl, hg3, hn3, hc3, hB3, hfl⟩ := owns_blk hown hnil
      have HI : Hid (Stand gs w q 0 q g3 cap3 w6.heap.size (w6.alloc (.cells #[.complex .f64 (FB (gs 0 0)) (FB (gs 0 1)), .complex .f64 (FB (gs 0 2)) (FB (gs 0 3)), .complex .f64 (FB (gs 0 4)) (FB (gs 0 5)), .complex .f64 (FB (gs 0 6)) (FB (gs 0 7))] 28))) := by
        refine ⟨⟨_, (hB0.out.below hb6 hB0.out.lt).alloc _, fun i hi => ?_⟩, ⟨_, (hB1.out.below hb6 hB1.out.lt).alloc _, HF.out⟩, ⟨_, hB3.alloc _, fun i hi => ?_⟩, Blk.new w6 _ 28 4 _ (sv_arr (gs 0)), (hL.out.trans (hb6.mono hL.out.size)).alloc (Nat.le_trans hL.out.size hb6.size) _, ?_, hB3.lt⟩
        · obtain rfl : i = 0 := by omega
          rfl
        · rw [hfl i hi]
          have e := lp_zero (dist gs) (q + 1) (i / 4) (by omega)
          show sv (gs ((4 + i) / 4)) ((4 + i) % 4) = sv (gs (lp (dist gs) (q + 1) 0 (i / 4))) (i % 4)
          rw [e, show (4 + i) / 4 = i / 4 + 1 by omega, show (4 + i) % 4 = i % 4 by omega]
        · have := hB1.out.lt
          omega
      obtain ⟨c1, c2, c3, c4⟩ := c0.out
      have d1 : w6.cell? ⟨b, o, none⟩ = some (.complex .f64 (FB (gs 0 0)) (FB (gs 0 1))) := by rw [hb6.cell (block_lt_of_cell c1)]; exact c1
      have d2 : w6.cell? ⟨b, o + 1, none⟩ = some (.complex .f64 (FB (gs 0 2)) (FB (gs 0 3))) := by rw [hb6.cell (block_lt_of_cell c2)]; exact c2
      have d3 : w6.cell? ⟨b, o + 2, none⟩ = some (.complex .f64 (FB (gs 0 4)) (FB (gs 0 5))) := by rw [hb6.cell (block_lt_of_cell c3)]; exact c3
      have d4 : w6.cell? ⟨b, o + 3, none⟩ = some (.complex .f64 (FB (gs 0 6)) (FB (gs 0 7))) := by rw [hb6.cell (block_lt_of_cell c4)]; exact c4
      clear c0 c1 c2 c3 c4 hB0 hB1 hB3 hfl hown hnil hb6 hL hsrc hsv HF hA hg3 HBb
      have H3 := Lib.hid hn3
      have HC3 := Lib.hid hc3
      clear hn3 hc3
      go_wp2
      clear d1 d2 d3 d4
      generalize w6.alloc (.cells #[.complex .f64 (FB (gs 0 0)) (FB (gs 0 1)), .complex .f64 (FB (gs 0 2)) (FB (gs 0 3)), .complex .f64 (FB (gs 0 4)) (FB (gs 0 5)), .complex .f64 (FB (gs 0 6)) (FB (gs 0 7))] 28) = w7 at HI ⊢
      generalize w6.heap.size = z0 at HI ⊢
      go_loopw [3, 4, 6, 7, 8] (fun vo vp vl vz _ wr => ∃ (m r z : Nat), m + r = q ∧ vo = .slice (some ⟨w.heap.size, 0, none⟩) (m + 1) (q + 1) ∧ vp = .slice (some ⟨w.heap.size + 1, 0, none⟩) r q ∧ vl = .slice (some ⟨g3, 0, none⟩) r cap3 ∧ vz = .pointer (some ⟨z, 0, none⟩) ∧ Hid (Stand gs w q m r g3 cap3 z wr)) (fun _ _ vl _ _ _ => slen vl)
      case atStart => exact ⟨0, q, z0, by omega, rfl, rfl, rfl, rfl, HI⟩
      case round =>
        clear HI
        obtain ⟨m, r, z, hmr, rfl, rfl, rfl, rfl, hI⟩ := hrel
        by_cases hr0 : 0 < r
        · have yr : (0 : Int) < (r : Int) := by omega
          obtain ⟨k, hk1, hk2, hk3, hk4⟩ := lp_step (dist gs) (q + 1) m (by omega)
          rw [show q + 1 - 1 - m = r by omega] at hk1 hk2
          have hm1 : pl (dist gs) (q + 1) m < q + 1 := pl_lt _ _ _ (by omega)
          have hm2 : pl (dist gs) (q + 1) (m + 1) < q + 1 := pl_lt _ _ _ (by omega)
          have CN : Hid (∀ W, Below wr.heap.size wr W → Calls Try.prog 17 #[.agg (arr 4 (sv (gs (pl (dist gs) (q + 1) m)))), .slice (some ⟨g3, 0, none⟩) r cap3] W fun e w' => e = .returned (.int .i64 (k : Int)) ∧ Below W.heap.size W w') := fun W hW => by
            obtain ⟨fl, hF, hfl⟩ := (hI.out.keep hW).fl
            have h := near_any (gs (pl (dist gs) (q + 1) m)) (fun t => gs (lp (dist gs) (q + 1) m t)) (.slice (some ⟨g3, 0, none⟩) r cap3) r W (HG.out _ hm1) (fun i hi => HG.out _ (lp_lt _ _ _ _ (by omega) (by omega))) (by omega)
              (Or.inr ⟨g3, 0, cap3, rfl, hr0, hF.lt, fun i hi => by have := H3.out; rw [Nat.zero_add, hF.cell i (by omega), hfl i hi]⟩)
            have e : bst every (fars (gs (pl (dist gs) (q + 1) m)) (fun t => gs (lp (dist gs) (q + 1) m t))) r = some k := hk1
            rw [e] at h
            exact h
          have hz := hI.out.fz
          have HZ := Lib.hid hz
          clear hz hk1
          go_wp2_with (refine wpList_load_blk rfl 28 (.tmp 7) rfl z rfl 28 4 (sv (gs (pl (dist gs) (q + 1) m))) HZ.out _ ty28 rfl sz28 ?_)
          refine (CN.out _ (Below.refl _ _)).mono ?_
          rintro e w5 ⟨rfl, hb5⟩
          have I5 := hI.out.keep hb5
          clear CN HZ hb5 hI
          obtain ⟨⟨fo, hO, hfo⟩, ⟨fp, hP, hfp⟩, ⟨fl, hF, hfl⟩, hZ, hL, n1, n2⟩ := I5
          have h3 := H3.out
          obtain ⟨x, hx⟩ : ∃ x, x = pl (dist gs) (q + 1) (m + 1) := ⟨_, rfl⟩
          rw [← hx] at hk3 hm2
          have HFL : ∀ j, j < 4 → w5.cell? ⟨g3, k * 4 + j, none⟩ = some (sv (gs x) j) := fun j hj => by
            rw [hF.cell _ (by omega), hfl _ (by omega), skc_at _ k j hj]
            show some (sv (gs (lp (dist gs) (q + 1) m k)) j) = _
            rw [hk3]
          have c0 : w5.cell? ⟨g3, k * 4, none⟩ = some (.complex .f64 (FB (gs x 0)) (FB (gs x 1))) := HFL 0 (by omega)
          have c1 : w5.cell? ⟨g3, k * 4 + 1, none⟩ = some (.complex .f64 (FB (gs x 2)) (FB (gs x 3))) := HFL 1 (by omega)
          have c2 : w5.cell? ⟨g3, k * 4 + 2, none⟩ = some (.complex .f64 (FB (gs x 4)) (FB (gs x 5))) := HFL 2 (by omega)
          have c3 : w5.cell? ⟨g3, k * 4 + 3, none⟩ = some (.complex .f64 (FB (gs x 6)) (FB (gs x 7))) := HFL 3 (by omega)
          have HZ := Lib.hid hZ
          have HO := Lib.hid hO
          have HP := Lib.hid hP
          have HF := Lib.hid hF
          have HL := Lib.hid hL
          have HN := Lib.hid (And.intro n1 n2)
          have Hfo := Lib.hid hfo
          have Hfp := Lib.hid hfp
          have Hfl := Lib.hid hfl
          have Hk := Lib.hid (And.intro hk3 hk4)
          have Hx := Lib.hid hx
          have HM := Lib.hid (And.intro hm1 hm2)
          clear hZ hO hP hF hL n1 n2 hfo hfp hfl hk3 hk4 HFL h3 hm1 hm2 hx
          have zk : (0 : Int) ≤ (k : Int) := by omega
          have yk : (k : Int) < (r : Int) := by omega
          go_upto_region 14 with (refine wpList_store_blk rfl 28 (.tmp 7) (.tmp 44) rfl z 4 (sv (gs x)) (sv (gs (pl (dist gs) (q + 1) m))) rfl rfl 28 HZ.out sz28 (fun _ _ => rfl) ?_)
          obtain ⟨n1, n2⟩ := HN.out
          have P6 : Hid (Blk (w5.setRow z (arr 4 (sv (gs x)))) (w.heap.size + 1) 3 q fp ∧ Blk (w5.setRow z (arr 4 (sv (gs x)))) g3 28 (cap3 * 4) fl ∧ Blk (w5.setRow z (arr 4 (sv (gs x)))) z 28 4 (sv (gs x)) ∧ Below w.heap.size w (w5.setRow z (arr 4 (sv (gs x))))) :=
            ⟨HP.out.setRowOther _ _ (by omega), HF.out.setRowOther _ _ (by omega), HZ.out.setRow _, below_setRow HL.out (by omega) _⟩
          have O6 := Lib.hid (HO.out.setRowOther z (arr 4 (sv (gs x))) (by omega))
          clear HO HP HF HZ HL c0 c1 c2 c3 n1 n2
          generalize w5.setRow z (arr 4 (sv (gs x))) = w6 at P6 O6 ⊢
          have c1 : w6.cell? ⟨w.heap.size + 1, k, none⟩ = some (.int .i64 (x : Int)) := by
            rw [P6.out.1.cell _ (by omega), Hfp.out _ hk2]
            unfold inc
            rw [Hk.out.1]
          obtain ⟨w7, hap, hO7, hK7⟩ := app_int (n := m + 1) O6.out (x : Int) (by omega)
          have O7 := Lib.hid hO7
          have HK7 := Lib.hid hK7
          clear hO7 hK7
          go_upto_region 15 with (at_builtin; refine wpList_append_run rfl (.tmp 45) (.tmp 50) 44 44 rfl _ _ _ _ rfl rfl hap ?_)
          clear hap c1
          obtain ⟨n1, n2⟩ := HN.out
          have P7 : Hid (Blk w7 (w.heap.size + 1) 3 q fp ∧ Blk w7 g3 28 (cap3 * 4) fl ∧ Blk w7 z 28 4 (sv (gs x)) ∧ Below w.heap.size w w7) :=
            ⟨HK7.out.blk (show w.heap.size + 1 ≠ w.heap.size by omega) P6.out.1, HK7.out.blk (show g3 ≠ w.heap.size by omega) P6.out.2.1, HK7.out.blk (show z ≠ w.heap.size by omega) P6.out.2.2.1, P6.out.2.2.2.trans (keep_low HK7.out (Nat.le_refl _) P6.out.2.2.2.size)⟩
          have CD := delete_sk_at g3 r cap3 k (k + 1) fl w7 P7.out.2.1 (fun j hj => by rw [Hfl.out j hj]; rfl) rfl hk2 (by have := H3.out; omega) (by omega) HC3.out
          rw [show ((k + 1 : Nat) : Int) = (k : Int) + 1 by omega] at CD
          have HCD := Lib.hid CD
          clear CD P6 O6 HK7 n1 n2
          go_wp2_with fail
          refine HCD.out.mono ?_
          rintro e w8 ⟨rfl, fl', hF8, hfl8, hK8⟩
          obtain ⟨n1, n2⟩ := HN.out
          have P8 : Hid (Blk w8 w.heap.size 3 (q + 1) (fun j => if j = m + 1 then .int .i64 (x : Int) else fo j) ∧ Blk w8 (w.heap.size + 1) 3 q fp ∧ Blk w8 z 28 4 (sv (gs x)) ∧ Below w.heap.size w w8) :=
            ⟨hK8.blk (show w.heap.size ≠ g3 by omega) O7.out, hK8.blk (show w.heap.size + 1 ≠ g3 by omega) P7.out.1, hK8.blk (show z ≠ g3 by omega) P7.out.2.2.1, P7.out.2.2.2.trans (keep_low hK8 (by omega) P7.out.2.2.2.size)⟩
          have F8 := Lib.hid (And.intro hF8 hfl8)
          have CD := delete_int_at (w.heap.size + 1) r q k (k + 1) fp w8 P8.out.2.1 (fun j hj => by rw [Hfp.out j hj]; rfl) rfl hk2 (by omega) (by omega) (by omega)
          rw [show ((k + 1 : Nat) : Int) = (k : Int) + 1 by omega] at CD
          have HCE := Lib.hid CD
          clear CD HCD P7 O7 hF8 hfl8 hK8 n1 n2
          go_wp2_with fail
          refine HCE.out.mono ?_
          rintro e w9 ⟨rfl, fp', hP9, hfp9, hK9⟩
          obtain ⟨n1, n2⟩ := HN.out
          have I9 : Hid (Blk w9 w.heap.size 3 (q + 1) (fun j => if j = m + 1 then .int .i64 (x : Int) else fo j) ∧ Blk w9 g3 28 (cap3 * 4) fl' ∧ Below w.heap.size w w9) :=
            ⟨hK9.blk (show w.heap.size ≠ w.heap.size + 1 by omega) P8.out.1, hK9.blk (show g3 ≠ w.heap.size + 1 by omega) F8.out.1, P8.out.2.2.2.trans (keep_low hK9 (by omega) P8.out.2.2.2.size)⟩
          have Z9 : Blk w9 z 28 4 (sv (gs x)) := hK9.blk (show z ≠ w.heap.size + 1 by omega) P8.out.2.2.1
          have P9 := Lib.hid (And.intro hP9 hfp9)
          have c0 : w9.cell? ⟨z, 0, none⟩ = some (.complex .f64 (FB (gs x 0)) (FB (gs x 1))) := Z9.cell 0 (by omega)
          have c1 : w9.cell? ⟨z, 1, none⟩ = some (.complex .f64 (FB (gs x 2)) (FB (gs x 3))) := Z9.cell 1 (by omega)
          have c2 : w9.cell? ⟨z, 2, none⟩ = some (.complex .f64 (FB (gs x 4)) (FB (gs x 5))) := Z9.cell 2 (by omega)
          have c3 : w9.cell? ⟨z, 3, none⟩ = some (.complex .f64 (FB (gs x 6)) (FB (gs x 7))) := Z9.cell 3 (by omega)
          clear P8 hP9 hfp9 hK9 HCE Z9 n1 n2
          have HI : Hid (Stand gs w q (m + 1) (r - 1) g3 cap3 w9.heap.size (w9.alloc (.cells #[.complex .f64 (FB (gs x 0)) (FB (gs x 1)), .complex .f64 (FB (gs x 2)) (FB (gs x 3)), .complex .f64 (FB (gs x 4)) (FB (gs x 5)), .complex .f64 (FB (gs x 6)) (FB (gs x 7))] 28))) := by
            refine ⟨⟨_, I9.out.1.alloc _, fun i hi => ?_⟩, ⟨_, P9.out.1.alloc _, fun i hi => ?_⟩, ⟨_, I9.out.2.1.alloc _, fun i hi => ?_⟩, ?_, I9.out.2.2.alloc I9.out.2.2.size _, HN.out.1, I9.out.2.1.lt⟩
            · by_cases c : i = m + 1
              · subst c
                rw [if_pos rfl, Hx.out]
                rfl
              · rw [if_neg c]
                exact Hfo.out i (by omega)
            · rw [P9.out.2 i hi]
              unfold inc
              rw [Hk.out.2 i]
              by_cases c : i < k
              · rw [if_pos c, if_pos c, Hfp.out i (by omega)]
                rfl
              · rw [if_neg c, if_neg c, Hfp.out (i + 1) (by omega)]
                rfl
            · rw [F8.out.2 i hi]
              show _ = sv (gs (lp (dist gs) (q + 1) (m + 1) (i / 4))) (i % 4)
              rw [Hk.out.2 (i / 4)]
              by_cases c : i < k * 4
              · rw [if_pos c, if_pos (by omega), Hfl.out i (by omega)]
                rfl
              · rw [if_neg c, if_neg (by omega), Hfl.out (i + 4) (by omega)]
                show sv (gs (lp (dist gs) (q + 1) m ((i + 4) / 4))) ((i + 4) % 4) = _
                rw [show (i + 4) / 4 = i / 4 + 1 by omega, show (i + 4) % 4 = i % 4 by omega]
            · rw [← Hx.out]
              exact Blk.new w9 _ 28 4 _ (sv_arr (gs x))
          clear P9 F8 I9 Hfo Hfp Hfl Hk Hx
          go_wp2
          go_roundw
          case rel => exact ⟨m + 1, r - 1, w9.heap.size, by omega, rfl, rfl, rfl, rfl, HI⟩
          case measure => show r - 1 < r; omega
        · obtain rfl : r = 0 := by omega
          obtain rfl : m = q := by omega
          go_wp2
          go_ret
          obtain ⟨f, hO, hf⟩ := hI.out.fo
          exact ⟨_, rfl, Or.inr ⟨_, 0, _, rfl, by omega, hO.lt, fun i hi => by rw [Nat.zero_add, hO.cell i (by omega), hf i (by omega)]⟩, hI.out.lo⟩
end Go.Proofs.Ytmcaapgcplhhmaa
