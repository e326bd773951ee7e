import Derived.Test.YtekeaoolodmdaaaHO
import Derived.Deep.RegionHeld3
/- The part that tells a text by another one. -/
namespace Go.Proofs.Ytekeaoolodmdaaa
set_option maxRecDepth 100000
open Go.RowKit
theorem results_cell_tmp {P : Program} {fn : Func} {p q : Tmp} {ty : TypeId} (h : fn.results = #[.cell p ty, .tmp q]) (tmps : Array Value) (w : World) (g : Nat) (t : TypeId) (cs : Array Value) (fr : Nat × Nat) (d : TypeDesc) (u : Value) (hq : tmps.getD q undef = u)
    (hp : tmps.getD p undef = .pointer (some ⟨g, 0, none⟩)) (hg : w.heap[g]? = some (.cells cs t fr))
    (hu : P.underlying ty = some d) (hd : (match d with | .struct _ | .array _ _ => true | _ => false) = true) (hi : (P.info? ty).map (·.size) = some cs.size) :
    (results fn tmps).run P w = .ok (.tuple #[.agg cs, u]) w := by
  subst hq
  have hp' : tmps[p]?.getD undef = .pointer (some ⟨g, 0, none⟩) := by simpa using hp
  simp [results, h, hp', asAddr, run_loadVar_row w g t ty cs fr d hg hu hd hi]
def dpv (o : Option Pt) : Value := match o with | some p => .tuple #[ptv p, .bool true] | none => .tuple #[ptv zp, .bool false]
theorem three_set {w : World} {p : Nat} {E : TypeId} {x y z : Value} (h : w.heap[p]? = some (.cells #[x, y, z] E (0, 0))) (a b c : Value) : (((w.setCell ⟨p, 0, none⟩ a).setCell ⟨p, 1, none⟩ b).setCell ⟨p, 2, none⟩ c).heap[p]? = some (.cells #[a, b, c] E (0, 0)) := by
  rw [heap_setCell_same _ p 2 _ E _ (heap_setCell_same _ p 1 _ E _ (heap_setCell_same w p 0 _ E _ h))]; rfl
set_option maxHeartbeats 4000000 in
theorem deltapart_any {l : List Pt} {T : List (List UInt8)} {v vt : Value} (b : Int) (s : List UInt8) {w : World} (hv : RowP w v l) (ht : RowS w vt T) (hl : l.length ≤ T.length) (hn : T.length ≤ 10000) (hT : ∀ x ∈ T, x.length ≤ 4099) (hs : s.length ≤ 4099) :
    Calls Try.prog 25 #[v, vt, .int .i64 b, .string (bs s)] w fun e w' => e = .returned (dpv (dpart l T b s)) ∧ Below w.heap.size w w' := by
  have C1 : Hid (∀ W, RowP W v l → _) := Lib.hid (fun W h => depth_any b (w := W) h (by omega))
  have HV := Lib.hid hv
  have HT := Lib.hid ht
  obtain ⟨dp, er, hD⟩ : ∃ dp er, depthR l b = (dp, er) := ⟨_, _, rfl⟩
  have h0 : ∀ o1 : Obj, Below w.heap.size w (w.alloc o1) := fun o1 => (Below.refl w.heap.size w).alloc (Nat.le_refl _) o1
  have HB0 := Lib.hid h0
  have hT0 : (w.alloc (.cells #[.bool false, .int .i64 0, .string ⟨#[]⟩] 50)).heap[w.heap.size]? = some (.cells #[.bool false, .int .i64 0, .string ⟨#[]⟩] 50 (0, 0)) := heap_alloc_new _ _
  have HT0 := Lib.hid hT0
  rw [hD] at C1
  dsimp only at C1
  clear h0 hT0
  have hR0 : ∀ w1, Below (w.alloc (.cells #[.bool false, .int .i64 0, .string ⟨#[]⟩] 50)).heap.size (w.alloc (.cells #[.bool false, .int .i64 0, .string ⟨#[]⟩] 50)) w1 → w1.heap[w.heap.size]? = some (.cells #[.bool false, .int .i64 0, .string ⟨#[]⟩] 50 (0, 0)) ∧ Below w.heap.size w w1 := fun w1 hb => ⟨by rw [hb.block _ (by simp)]; exact HT0.out, (HB0.out _).trans (hb.mono (by simp))⟩
  have HR0 := Lib.hid hR0
  clear hR0
  by_cases hcd : er = 0 ∧ dp < 4
  · obtain ⟨rfl, hdp⟩ := hcd
    have hw0 : (wayR l b).2 = 0 := by
      have : (depthR l b).2 = 0 := by rw [hD]
      unfold depthR at this
      by_cases c : (wayR l b).2 = 0
      · exact c
      · rw [if_neg c] at this; exact absurd this c
    have hw := wayR_way hw0
    obtain ⟨bn, hbn⟩ : ∃ bn : Nat, b = (bn : Int) := ⟨b.toNat, by omega⟩
    subst hbn
    have hbl : bn < T.length := by omega
    have hB4 : (T.getD bn []).length ≤ 4099 := hT _ (getD_mem T [] bn hbl)
    obtain ⟨B, hB⟩ : ∃ B, B = T.getD bn [] := ⟨_, rfl⟩
    obtain ⟨dd, hdd⟩ : ∃ dd, dd = dBy T (bn : Int) s := ⟨_, rfl⟩
    have hdd2 : dd = dBytes B.length (made B s) := by rw [hdd, hB]; rfl
    rw [← hB] at hB4
    obtain ⟨hg, htt, hz⟩ := made_good hB4 hs
    have zB := bs_size B
    have zs := bs_size s
    have zd := bs_size dd
    have D1 : Hid (∀ W, _) := Lib.hid (fun W => make_any B s W hB4 hs)
    have D3 : Hid (∀ W v, RowZ W v (made B s) → Calls Try.prog 34 #[.int .i64 ((bs B).size : Int), v] W fun e w' => e = .returned (.tuple #[.string (bs dd), .int .i64 0]) ∧ Below W.heap.size W w') := fun W v h => by
      rw [zB, hdd2]
      exact write_any B.length (made B s) v W hB4 h hg (fun x hx => good_small hB4 (hg x hx)) (by omega)
    obtain ⟨n, hn1⟩ : ∃ n, n = T.length := ⟨_, rfl⟩
    obtain ⟨ad, cap, hvt, hc⟩ := RowS.cells ht
    obtain ⟨bt, ot, rfl, hbt, hcell⟩ := hc bn hbl
    rw [← hB] at hcell
    rw [← hn1] at hvt
    subst hvt
    have yk : (bn : Int) < (n : Int) := by omega
    have y0 : (0 : Int) ≤ (bn : Int) := by omega
    have hdp' : decide ((4 : Int) ≤ dp) = false := by simp; omega
    have hdp2 : dp < 4 := hdp
    have HDP : Hid (dpart l T (bn : Int) s = if dd.length < s.length then some ⟨true, (bn : Int), dd⟩ else none) := by
      show _ = _
      unfold dpart
      rw [hD, ← hdd]
      by_cases c : dd.length < s.length
      · rw [if_pos ⟨rfl, hdp, c⟩, if_pos c]
      · rw [if_neg (fun h => c h.2.2), if_neg c]
    have HCC : Hid (∀ W : World, Below w.heap.size w W → W.cell? ⟨bt, ot + bn, none⟩ = some (.string (bs B))) := fun W hW => by rw [hW.cell (p := ⟨bt, ot + bn, none⟩) hbt]; exact hcell
    rw [HDP.out]
    obtain ⟨RV, hRV⟩ : ∃ RV, RV = dpv (if dd.length < s.length then some ⟨true, (bn : Int), dd⟩ else none) := ⟨_, rfl⟩
    rw [← hRV]
    have HRV := Lib.hid hRV
    clear hRV
    have HMB := Lib.hid (And.intro zs zd)
    generalize made B s = L at *
    generalize bs B = sB at *
    generalize bs s = ss at *
    obtain ⟨sd, hsd⟩ : ∃ sd, sd = bs dd := ⟨_, rfl⟩
    rw [← hsd] at D3 zd HMB
    have HSD := Lib.hid hsd
    clear hsd hw0 hw hbl hB hdd hdd2 hg htt hz zB hn1 hc hcell HDP hD hv hl hn hT hs hB4 ht zs zd HT
    go_enter Try.func25, Try.ntmps25
    go_wp2_with fail
    refine (C1.out _ (HV.out.below (HB0.out _))).mono ?_
    rintro e w1 ⟨rfl, B1⟩
    obtain ⟨hk, L1⟩ := HR0.out _ B1
    have HK := Lib.hid hk
    have HL1 := Lib.hid L1
    clear B1 C1 hk L1 HR0 HT0 HB0 HV
    go_wp2
    have b0 : Below w1.heap.size w1 w1.drew := (Below.refl _ _).drew
    have SB : Hid (∀ W, Below w1.heap.size w1 W → W.cell? ⟨bt, ot + bn, none⟩ = some (.string sB) ∧ Below w1.heap.size w1 W) := fun W hW => ⟨HCC.out W (HL1.out.trans (hW.mono HL1.out.size)), hW⟩
    refine wp_region_noPanic ?_
    refine wp_region_held_drew (S := (fun W => W.cell? ⟨bt, ot + bn, none⟩ = some (.string sB) ∧ Below w1.heap.size w1 W)) (by kernel_rfl) (SB.out _ b0) (fun hHeld => ?_)
    refine wpAnyH_take (i := 0) (oi := { dst := some 27, op := Op.move (Operand.tmp 1), type := 35, pos := "chain.go:72", after := #[], guard := none }) (v := ?_) rfl (by kernel_rfl) (by kernel_rfl) (by kernel_rfl) (fun _ _ _ h => h) (Or.inl ⟨by kernel_rfl, ?_⟩) (by assumption) ?_
    rotate_left 1
    · (intro wS hSw; (try dsimp only at hSw); go_simp; try with_reducible rfl)
    try simp only [Act.put, List.setIfInBounds_toArray, List.set_cons_zero, List.set_cons_succ]
    refine wpAnyH_take (i := 1) (oi := { dst := some 28, op := Op.move (Operand.tmp 2), type := 3, pos := "chain.go:72", after := #[], guard := none }) (v := ?_) rfl (by kernel_rfl) (by kernel_rfl) (by kernel_rfl) (fun _ _ _ h => h) (Or.inl ⟨by kernel_rfl, ?_⟩) (by assumption) ?_
    rotate_left 1
    · (intro wS hSw; (try dsimp only at hSw); go_simp; try with_reducible rfl)
    try simp only [Act.put, List.setIfInBounds_toArray, List.set_cons_zero, List.set_cons_succ]
    refine wpAnyH_take (i := 2) (oi := { dst := some 29, op := Op.indexAddr 35 (Operand.tmp 27) (Operand.tmp 28), type := 0, pos := "chain.go:72", after := #[{ on := 0, ground := Ground.data }, { on := 1, ground := Ground.data }], guard := none }) (v := ?_) rfl (by kernel_rfl) (by kernel_rfl) (by kernel_rfl) (fun _ _ _ h => h) (Or.inl ⟨by kernel_rfl, ?_⟩) (by assumption) ?_
    rotate_left 1
    · (intro wS hSw; (try dsimp only at hSw); go_simp; try with_reducible rfl)
    try simp only [Act.put, List.setIfInBounds_toArray, List.set_cons_zero, List.set_cons_succ]
    refine wpAnyH_take (i := 3) (oi := { dst := some 30, op := Op.load 9 (Operand.tmp 29), type := 9, pos := "chain.go:72", after := #[{ on := 2, ground := Ground.data }], guard := none }) (v := ?_) rfl (by kernel_rfl) (by kernel_rfl) (by kernel_rfl) (fun _ _ _ h => h) (Or.inl ⟨by kernel_rfl, ?_⟩) (by assumption) ?_
    rotate_left 1
    · (intro wS hSw; (try dsimp only at hSw); go_simp; try with_reducible rfl)
    try simp only [Act.put, List.setIfInBounds_toArray, List.set_cons_zero, List.set_cons_succ]
    refine wpAnyH_take (i := 4) (oi := { dst := some 31, op := Op.call { callee := Callee.builtin Builtin.len, args := #[Operand.tmp 30], argTypes := #[9] }, type := 3, pos := "chain.go:72", after := #[{ on := 3, ground := Ground.data }], guard := none }) (v := ?_) rfl (by kernel_rfl) (by kernel_rfl) (by kernel_rfl) (fun _ _ _ h => h) (Or.inl ⟨by kernel_rfl, ?_⟩) (by assumption) ?_
    rotate_left 1
    · (intro wS hSw; (try dsimp only at hSw); go_simp; try with_reducible rfl)
    try simp only [Act.put, List.setIfInBounds_toArray, List.set_cons_zero, List.set_cons_succ]
    refine wpAnyH_take (i := 5) (oi := { dst := some 32, op := Op.move (Operand.tmp 1), type := 35, pos := "chain.go:72", after := #[], guard := none }) (v := ?_) rfl (by kernel_rfl) (by kernel_rfl) (by kernel_rfl) (fun _ _ _ h => h) (Or.inl ⟨by kernel_rfl, ?_⟩) (by assumption) ?_
    rotate_left 1
    · (intro wS hSw; (try dsimp only at hSw); go_simp; try with_reducible rfl)
    try simp only [Act.put, List.setIfInBounds_toArray, List.set_cons_zero, List.set_cons_succ]
    refine wpAnyH_take (i := 6) (oi := { dst := some 33, op := Op.move (Operand.tmp 2), type := 3, pos := "chain.go:72", after := #[], guard := none }) (v := ?_) rfl (by kernel_rfl) (by kernel_rfl) (by kernel_rfl) (fun _ _ _ h => h) (Or.inl ⟨by kernel_rfl, ?_⟩) (by assumption) ?_
    rotate_left 1
    · (intro wS hSw; (try dsimp only at hSw); go_simp; try with_reducible rfl)
    try simp only [Act.put, List.setIfInBounds_toArray, List.set_cons_zero, List.set_cons_succ]
    refine wpAnyH_take (i := 7) (oi := { dst := some 34, op := Op.indexAddr 35 (Operand.tmp 32) (Operand.tmp 33), type := 0, pos := "chain.go:72", after := #[{ on := 5, ground := Ground.data }, { on := 6, ground := Ground.data }], guard := none }) (v := ?_) rfl (by kernel_rfl) (by kernel_rfl) (by kernel_rfl) (fun _ _ _ h => h) (Or.inl ⟨by kernel_rfl, ?_⟩) (by assumption) ?_
    rotate_left 1
    · (intro wS hSw; (try dsimp only at hSw); go_simp; try with_reducible rfl)
    try simp only [Act.put, List.setIfInBounds_toArray, List.set_cons_zero, List.set_cons_succ]
    refine wpAnyH_take (i := 8) (oi := { dst := some 35, op := Op.load 9 (Operand.tmp 34), type := 9, pos := "chain.go:72", after := #[{ on := 7, ground := Ground.data }], guard := none }) (v := ?_) rfl (by kernel_rfl) (by kernel_rfl) (by kernel_rfl) (fun _ _ _ h => h) (Or.inl ⟨by kernel_rfl, ?_⟩) (by assumption) ?_
    rotate_left 1
    · (intro wS hSw; (try dsimp only at hSw); go_simp; try with_reducible rfl)
    try simp only [Act.put, List.setIfInBounds_toArray, List.set_cons_zero, List.set_cons_succ]
    refine wpAnyH_take (i := 9) (oi := { dst := some 36, op := Op.move (Operand.tmp 3), type := 9, pos := "chain.go:72", after := #[], guard := none }) (v := ?_) rfl (by kernel_rfl) (by kernel_rfl) (by kernel_rfl) (fun _ _ _ h => h) (Or.inl ⟨by kernel_rfl, ?_⟩) (by assumption) ?_
    rotate_left 1
    · (intro wS hSw; (try dsimp only at hSw); go_simp; try with_reducible rfl)
    try simp only [Act.put, List.setIfInBounds_toArray, List.set_cons_zero, List.set_cons_succ]
    refine wpAnyH_ready (rs := [10]) (by kernel_rfl) (by simp) ?_
    refine AllReadyH.cons (o := { dst := some 37, op := Op.call { callee := Callee.value (Operand.func 35), args := #[Operand.tmp 35, Operand.tmp 36], argTypes := #[9, 9] }, type := 59, pos := "chain.go:72", after := #[{ on := 8, ground := Ground.data }, { on := 9, ground := Ground.data }], guard := none }) rfl (fun K hK => ?_) AllReadyH.nil
    go_simp
    refine (D1.out _).mono ?_
    rintro e w10 ⟨pv, rfl, O10, B10⟩
    have Sa10 := SB.out _ (b0.trans B10)
    refine hK.out _ _ Sa10 (fun hHeld10 => ?_)
    clear hK K
    try simp only [Act.put, List.setIfInBounds_toArray, List.set_cons_zero, List.set_cons_succ]
    have R10 := O10.row
    refine wpAnyH_ready (rs := [11]) (by kernel_rfl) (by simp) ?_
    refine AllReadyH.cons (o := { dst := some 38, op := Op.call { callee := Callee.value (Operand.func 34), args := #[Operand.tmp 31, Operand.tmp 37], argTypes := #[3, 59] }, type := 28, pos := "chain.go:72", after := #[{ on := 4, ground := Ground.data }, { on := 10, ground := Ground.data }, { on := 10, ground := Ground.chain }], guard := none }) rfl (fun K hK => ?_) AllReadyH.nil
    go_simp
    refine (D3.out _ _ R10).mono ?_
    rintro e w11 ⟨rfl, B11⟩
    have Sa11 := SB.out _ (Sa10.2.trans (B11.mono Sa10.2.size))
    refine hK.out _ _ Sa11 (fun hHeld11 => ?_)
    clear hK K
    try simp only [Act.put, List.setIfInBounds_toArray, List.set_cons_zero, List.set_cons_succ]
    refine wpAnyH_take (i := 12) (oi := { dst := some 26, op := Op.move (Operand.tmp 38), type := 28, pos := "chain.go:72", after := #[{ on := 11, ground := Ground.data }], guard := none }) (v := ?_) rfl (by kernel_rfl) (by kernel_rfl) (by kernel_rfl) (fun _ _ _ h => h) (Or.inl ⟨by kernel_rfl, ?_⟩) (by assumption) ?_
    rotate_left 1
    · (intro wS hSw; (try dsimp only at hSw); go_simp; try with_reducible rfl)
    try simp only [Act.put, List.setIfInBounds_toArray, List.set_cons_zero, List.set_cons_succ]
    refine wpAnyH_take (i := 13) (oi := { dst := some 39, op := Op.extract (Operand.tmp 26) 0, type := 9, pos := "chain.go:72", after := #[{ on := 12, ground := Ground.data }], guard := none }) (v := ?_) rfl (by kernel_rfl) (by kernel_rfl) (by kernel_rfl) (fun _ _ _ h => h) (Or.inl ⟨by kernel_rfl, ?_⟩) (by assumption) ?_
    rotate_left 1
    · (intro wS hSw; (try dsimp only at hSw); go_simp; try with_reducible rfl)
    try simp only [Act.put, List.setIfInBounds_toArray, List.set_cons_zero, List.set_cons_succ]
    refine wpAnyH_take (i := 14) (oi := { dst := some 40, op := Op.extract (Operand.tmp 26) 1, type := 25, pos := "chain.go:72", after := #[{ on := 12, ground := Ground.data }, { on := 15, ground := Ground.gcOnly Departure.lateStores }], guard := none }) (v := ?_) rfl (by kernel_rfl) (by kernel_rfl) (by kernel_rfl) (fun _ _ _ h => h) (Or.inl ⟨by kernel_rfl, ?_⟩) (by assumption) ?_
    rotate_left 1
    · (intro wS hSw; (try dsimp only at hSw); go_simp; try with_reducible rfl)
    try simp only [Act.put, List.setIfInBounds_toArray, List.set_cons_zero, List.set_cons_succ]
    refine wpAnyH_take (i := 15) (oi := { dst := some 12, op := Op.assign (Operand.tmp 39), type := 9, pos := "chain.go:72", after := #[{ on := 13, ground := Ground.data }, { on := 11, ground := Ground.chain }, { on := 0, ground := Ground.phase }, { on := 1, ground := Ground.phase }, { on := 2, ground := Ground.phase }, { on := 3, ground := Ground.phase }, { on := 4, ground := Ground.phase }, { on := 5, ground := Ground.phase }, { on := 6, ground := Ground.phase }, { on := 7, ground := Ground.phase }, { on := 8, ground := Ground.phase }, { on := 9, ground := Ground.phase }, { on := 10, ground := Ground.phase }, { on := 11, ground := Ground.phase }, { on := 12, ground := Ground.phase }, { on := 13, ground := Ground.phase }, { on := 14, ground := Ground.textOnly Departure.lateStores }], guard := none }) (v := ?_) rfl (by kernel_rfl) (by kernel_rfl) (by kernel_rfl) (fun _ _ _ h => h) (Or.inl ⟨by kernel_rfl, ?_⟩) (by assumption) ?_
    rotate_left 1
    · (intro wS hSw; (try dsimp only at hSw); go_simp; try with_reducible rfl)
    try simp only [Act.put, List.setIfInBounds_toArray, List.set_cons_zero, List.set_cons_succ]
    refine wpAnyH_take (i := 16) (oi := { dst := some 11, op := Op.assign (Operand.tmp 40), type := 25, pos := "chain.go:72", after := #[{ on := 14, ground := Ground.data }, { on := 15, ground := Ground.chain }, { on := 0, ground := Ground.phase }, { on := 1, ground := Ground.phase }, { on := 2, ground := Ground.phase }, { on := 3, ground := Ground.phase }, { on := 4, ground := Ground.phase }, { on := 5, ground := Ground.phase }, { on := 6, ground := Ground.phase }, { on := 7, ground := Ground.phase }, { on := 8, ground := Ground.phase }, { on := 9, ground := Ground.phase }, { on := 10, ground := Ground.phase }, { on := 11, ground := Ground.phase }, { on := 12, ground := Ground.phase }, { on := 13, ground := Ground.phase }, { on := 14, ground := Ground.phase }, { on := 15, ground := Ground.phase }], guard := none }) (v := ?_) rfl (by kernel_rfl) (by kernel_rfl) (by kernel_rfl) (fun _ _ _ h => h) (Or.inl ⟨by kernel_rfl, ?_⟩) (by assumption) ?_
    rotate_left 1
    · (intro wS hSw; (try dsimp only at hSw); go_simp; try with_reducible rfl)
    try simp only [Act.put, List.setIfInBounds_toArray, List.set_cons_zero, List.set_cons_succ]
    refine wpAnyH_done (by kernel_rfl) ?_ _
    refine NoPanic.normal ?_
    have hk : w11.heap[w.heap.size]? = some (.cells #[.bool false, .int .i64 0, .string ⟨#[]⟩] 50 (0, 0)) := by rw [Sa11.2.block _ (lt_of_block HK.out)]; exact HK.out
    have c0 := cell_of_row _ _ 0 _ _ _ hk
    have c1 := cell_of_row _ _ 1 _ _ _ hk
    have c2 := cell_of_row _ _ 2 _ _ _ hk
    have f0 := frozen_of_row _ _ 0 _ _ hk
    have f1 := frozen_of_row _ _ 1 _ _ hk
    have f2 := frozen_of_row _ _ 2 _ _ hk
    have HK2 := Lib.hid hk
    have HL2 := Lib.hid (HL1.out.trans (Sa11.2.mono HL1.out.size))
    clear hk Sa10 Sa11 O10 B10 R10 B11 SB b0 D1 D3 HCC HK HL1 hHeld hHeld10 hHeld11
    by_cases c : dd.length < s.length
    · have t1 : (sd.size : Int) < (ss.size : Int) := by have := HMB.out; omega
      have HRE : Hid (RV = .tuple #[.agg #[.bool true, .int .i64 (bn : Int), .string sd], .bool true]) := by show _ = _; rw [HRV.out, if_pos c, HSD.out]; rfl
      clear HMB HRV c
      go_wp2
      exact bodyPost_ret (v := .tuple #[.agg #[.bool true, .int .i64 (bn : Int), .string sd], .bool true]) (results_cell_tmp rfl _ _ _ _ _ _ _ _ rfl rfl (three_set HK2.out _ _ _) Try.underlying50 rfl (by kernel_rfl)) rfl ⟨by rw [HRE.out], ((HL2.out.setCell (Nat.le_refl _) _).setCell (Nat.le_refl _) _).setCell (Nat.le_refl _) _⟩
    · have t1 : (ss.size : Int) ≤ (sd.size : Int) := by have := HMB.out; omega
      have HRE : Hid (RV = .tuple #[.agg #[.bool false, .int .i64 0, .string ⟨#[]⟩], .bool false]) := by show _ = _; rw [HRV.out, if_neg c]; rfl
      clear HMB HRV c
      go_wp2
      exact bodyPost_ret (v := .tuple #[.agg #[.bool false, .int .i64 0, .string ⟨#[]⟩], .bool false]) (results_cell_tmp rfl _ _ _ _ _ _ _ _ rfl rfl (three_set HK2.out _ _ _) Try.underlying50 rfl (by kernel_rfl)) rfl ⟨by rw [HRE.out], ((HL2.out.setCell (Nat.le_refl _) _).setCell (Nat.le_refl _) _).setCell (Nat.le_refl _) _⟩
  · have hdn : dpart l T b s = none := by unfold dpart; rw [hD, if_neg (fun h => hcd ⟨h.1, h.2.1⟩)]
    rw [hdn]
    unfold dpv ptv zp
    dsimp only
    have e0 : bs [] = ⟨#[]⟩ := rfl
    rw [e0]
    generalize bs s = ss at *
    have hcs : er ≠ 0 ∨ (er = 0 ∧ 4 ≤ dp) := by omega
    clear hcd hdn hD hv ht hl hn hT hs
    rcases hcs with c | ⟨rfl, c⟩
    all_goals
      go_enter Try.func25, Try.ntmps25
      go_wp2_with fail
      refine (C1.out _ (HV.out.below (HB0.out _))).mono ?_
      rintro e w1 ⟨rfl, B1⟩
      obtain ⟨hk, L1⟩ := HR0.out _ B1
      have c0 := cell_of_row _ _ 0 _ _ _ hk
      have c1 := cell_of_row _ _ 1 _ _ _ hk
      have c2 := cell_of_row _ _ 2 _ _ _ hk
      have f0 := frozen_of_row _ _ 0 _ _ hk
      have f1 := frozen_of_row _ _ 1 _ _ hk
      have f2 := frozen_of_row _ _ 2 _ _ hk
      have HK := Lib.hid hk
      have HL1 := Lib.hid L1
      clear B1 C1 hk L1 HR0 HT0 HB0 HV HT
      go_wp2
      exact bodyPost_ret (v := .tuple #[.agg #[.bool false, .int .i64 0, .string ⟨#[]⟩], .bool false]) (results_cell_tmp rfl _ _ _ _ _ _ _ _ rfl rfl (three_set HK.out _ _ _) Try.underlying50 rfl (by kernel_rfl)) rfl ⟨rfl, ((HL1.out.setCell (Nat.le_refl _) _).setCell (Nat.le_refl _) _).setCell (Nat.le_refl _) _⟩
end Go.Proofs.Ytekeaoolodmdaaa
