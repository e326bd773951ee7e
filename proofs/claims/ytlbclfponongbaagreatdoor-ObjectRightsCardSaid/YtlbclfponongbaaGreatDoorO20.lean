import Derived.Test.YtlbclfponongbaaGreatDoorO19
/- What an object names: the program's walk. -/
namespace Go.Proofs.YtlbclfponongbaaGreatDoor
open Go.RowKit Classical
/- the cells of children -/
def hc (H : Nat → (Nat → UInt8) × Int) (i : Nat) : Value := hv (H (i / 33)).1 (H (i / 33)).2 (i % 33)
theorem hc_at (H : Nat → (Nat → UInt8) × Int) (k j : Nat) (hj : j < 33) : hc H (k * 33 + j) = hv (H k).1 (H k).2 j := by
  unfold hc
  rw [show (k * 33 + j) / 33 = k by omega, show (k * 33 + j) % 33 = j by omega]
def kidH (es : Nat → Ent) (n : Nat) (c : Com) (i : Nat) : (Nat → UInt8) × Int := if i < n then ((es i).id, (es i).kind) else if i = n then (c.tree, 2) else (c.par (i - n - 1), 3)
theorem ex_child {o : Oper} {a : Act} {w : World} (x0 x1 : Operand) (ho : o.op = .build 58 #[(0, x0), (1, x1)]) (k : Int) (f : Nat → UInt8) (h0 : a.eval x0 = .agg (arr 32 (bv f))) (h1 : a.eval x1 = .int .i64 k) :
    (execOp a.eval o).run Tryz.prog w = .ok (.value (.agg (arr 33 (hv f k)))) w :=
  ex_build ho (by simp [h0, h1]) (bd_child w k f)
theorem ex_fieldP {P : Program} {o : Oper} {a : Act} {w : World} {ty : TypeId} {k q : Nat} (hF : HasField P ty k q) (x : Operand) (ho : o.op = .fieldAddr ty x k) (b p : Nat) (hx : a.eval x = .pointer (some ⟨b, p, none⟩)) (r : Nat) (hr : p + q = r) :
    (execOp a.eval o).run P w = .ok (.value (.pointer (some ⟨b, r, none⟩))) w := hr ▸ ex_field hF x ho b p hx
/- what an object's children are -/
def Kids (k : Int) (l : List UInt8) (H : Nat → (Nat → UInt8) × Int) (m : Nat) : Prop :=
  (¬ objOk k l → m = 0) ∧ (objOk k l → (k = 1 → m = 0) ∧ (k = 2 → ∃ es n, IsTree l es n ∧ m = n ∧ ∀ i, i < n → H i = ((es i).id, (es i).kind)) ∧ (k = 3 → ∃ c, IsCom l c ∧ m = c.n + 1 ∧ H 0 = (c.tree, 2) ∧ ∀ i, i < c.n → H (i + 1) = (c.par i, 3)))
theorem kids_of {k : Int} {l : List UInt8} {es : Nat → Ent} {n : Nat} {c : Com} (ho : objOk k l) (h : (k = 2 → IsTree l es n) ∧ (k ≠ 2 → n = 0) ∧ (k = 3 → IsCom l c) ∧ (k ≠ 3 → c.n = 0)) : Kids k l (kidH es n c) (if k = 3 then n + 1 + c.n else n + c.n) := by
  obtain ⟨h1, h2, h3, h4⟩ := h
  refine ⟨fun h => absurd ho h, fun _ => ⟨?_, ?_, ?_⟩⟩
  · rintro rfl
    rw [if_neg (by decide), h2 (by decide), h4 (by decide)]
  · rintro rfl
    rw [if_neg (by decide), h4 (by decide)]
    exact ⟨es, n, h1 rfl, rfl, fun i hi => by unfold kidH; rw [if_pos hi]⟩
  · rintro rfl
    have n0 := h2 (by decide)
    subst n0
    rw [if_pos rfl]
    refine ⟨c, h3 rfl, by omega, rfl, fun i hi => ?_⟩
    unfold kidH
    rw [if_neg (by omega), if_neg (by omega), show i + 1 - 0 - 1 = i by omega]
/- in a loop of Children: what was there stays, the children so far -/
structure HS (B : Nat) (w0 : World) (H : Nat → (Nat → UInt8) × Int) (m : Nat) (v : Value) (w : World) : Prop where
  keep : Keep (· < B) w0 w
  row : w.ownsRow B 58 33 v m (arr (m * 33) (hc H)).toList
  size : B ≤ w.heap.size
theorem HS.all {B : Nat} {w0 : World} {H : Nat → (Nat → UInt8) × Int} {m : Nat} {v : Value} {w w' : World} (h : HS B w0 H m v w) (hb : Below w.heap.size w w') : HS B w0 H m v w' :=
  ⟨h.keep.trans (Keep.all hb), owns_all h.row hb, Nat.le_trans h.size hb.size⟩
theorem HS.next {B : Nat} {w0 : World} {H : Nat → (Nat → UInt8) × Int} {m : Nat} {v : Value} {w : World} (h : HS B w0 H m v w) (f : Nat → UInt8) (k : Int) (hH : H m = (f, k)) (hm : m + 1 ≤ 100000) :
    ∃ g cap w', (Builtin.append_ #[40, 40] 40 #[v, .slice (some ⟨w.heap.size, 0, none⟩) 1 1]).run Tryz.prog (w.alloc (.cells (arr 33 (hv f k)) 58)) = .ok (.slice (some ⟨g, 0, none⟩) (m + 1) cap) w' ∧ HS B w0 H (m + 1) (.slice (some ⟨g, 0, none⟩) (m + 1) cap) w' := by
  obtain ⟨g, cap, w', hap, ho, hk, hat⟩ := app_own tChildren iChild (arr_size 33 _) (by decide) (by decide) (arr 33 (hv f k)) (arr_congr fun j hj => (by rw [hc_at _ _ _ hj, hH] : hv f k j = hc H (m * 33 + j))) (fun j => hv_one _ _ _) h.row h.size hm
  exact ⟨g, cap, w', hap, h.keep.trans (hk.mono fun b hb _ e => by have := (own_lt h.row e).1; omega), ho, Nat.le_trans h.size hk.size⟩
theorem sv_at {w : World} {z : Nat} {v : Value} {t : Nat → UInt8} {pv : Value} {s : List UInt8} (h : Blk w z 66 35 (sv v t pv s)) : w.cell? ⟨z, 0, none⟩ = some v ∧ w.cell? ⟨z, 33, none⟩ = some pv ∧ At w z 1 32 (bv t) := by
  refine ⟨h.cell 0 (by omega), h.cell 33 (by omega), h.at0.part 1 32 _ (by omega) fun j hj => ?_⟩
  unfold sv cv
  rw [if_neg (by omega), if_pos (by omega), show 1 + j - 1 = j by omega]
  rfl
set_option maxHeartbeats 2000000 in
set_option maxRecDepth 100000 in
theorem children_any (k : Int) (l : List UInt8) (w : World) :
    Calls Tryz.prog 9 #[.agg #[.int .i64 k, .string (bs l)]] w fun e w' => ∃ v H m, e = .returned v ∧ Row w' v 33 (hc H) m ∧ Kids k l H m ∧ Below w.heap.size w w' := by
  have HR := Lib.hid (fun W => read_any k l W)
  have L0 : Hid (Below w.heap.size w (w.alloc (.cells (arr 2 (ov k l)) 23))) := (Below.refl _ _).alloc (Nat.le_refl _) _
  have BO : Hid (Blk (w.alloc (.cells (arr 2 (ov k l)) 23)) w.heap.size 23 2 (ov k l)) := Blk.newAt _ (heap_alloc_new _ _) rfl
  go_enter Tryz.func9, Tryz.ntmps9
  go_wp2_with fail
  refine (HR.out _).mono ?_
  change ∀ e w', _ → _
  rintro e w2 ⟨v, t, pv, s, rfl, S2, o1, o2, -, L2⟩
  replace L2 : Below (w.alloc (.cells (arr 2 (ov k l)) 23)).heap.size (w.alloc (.cells (arr 2 (ov k l)) 23)) w2 := L2
  have BO2 := Lib.hid (BO.out.below L2 BO.out.lt)
  have L3 := Lib.hid ((L0.out.trans (L2.mono L0.out.size)).alloc (Nat.le_trans L0.out.size L2.size) (.cells (arr 35 (sv v t pv s)) 66))
  have A3 := (Below.refl w2.heap.size w2).alloc (Nat.le_refl _) (.cells (arr 35 (sv v t pv s)) 66)
  have S3 := Lib.hid (S2.below A3)
  have BO3 := Lib.hid (BO2.out.below A3 BO2.out.lt)
  have BS3 : Hid (Blk (w2.alloc (.cells (arr 35 (sv v t pv s)) 66)) w2.heap.size 66 35 (sv v t pv s)) := Blk.newAt _ (heap_alloc_new _ _) rfl
  clear S2 L2 L0 HR BO BO2 A3
  go_upto_region 2 with (refine wpList_store_blk rfl 66 (.tmp 3) (.tmp 13) rfl w2.heap.size 35 (sv v t pv s) sv0 rfl rfl 66 (Blk.newAt _ (heap_alloc_new _ _) rfl) szSaid (fun i _ => sv_one _ o1 _ _ o2 _ i) ?_)
  rw [World.setRow_alloc_new]
  generalize w2.alloc (.cells (arr 35 (sv v t pv s)) 66) = w3 at L3 S3 BO3 BS3 ⊢
  generalize w2.heap.size = zs at BS3 ⊢
  by_cases ho : objOk k l
  · rw [decide_eq_true ho]
    obtain ⟨es, n, c, R1, R2, rfl, rfl, hf⟩ := S3.out
    have KK := Lib.hid (kids_of ho (hf ho))
    have NN : Hid (n ≤ 32) := by
      show n ≤ 32
      by_cases h2 : k = 2
      · exact ((hf ho).1 h2).1.1
      · have := (hf ho).2.1 h2; omega
    have CN : Hid (c.n ≤ 4) := by
      show c.n ≤ 4
      by_cases h2 : k = 3
      · exact ((hf ho).2.2.1 h2).1.1
      · have := (hf ho).2.2.2 h2; omega
    have C3 := Lib.hid (hf ho).2.2.2
    obtain ⟨ad, cap, rfl, ha⟩ := row_addr R1
    obtain ⟨ad2, cap2, rfl, ha2⟩ := row_addr R2
    have HA := Lib.hid ha
    have HA2 := Lib.hid ha2
    obtain ⟨d0, d33, dt⟩ := sv_at BS3.out
    have HT := Lib.hid dt
    have H0 : Hid (HS w3.heap.size w3 (kidH es n c) 0 (.slice none 0 0) w3) := ⟨Keep.refl _ _, by rw [Nat.zero_mul]; exact World.ownsRow_nil _ _ _ _, Nat.le_refl _⟩
    have zsl := Lib.hid BS3.out.lt
    clear ha ha2 R1 R2 hf ho S3 dt
    go_wp2
    go_loopw [5, 20] (fun u i wr => ∃ (j : Nat) (x : Value), j ≤ n ∧ i = .int .i64 j ∧ x = u ∧ Hid (HS w3.heap.size w3 (kidH es n c) j x wr)) (fun _ i _ => n - (intOf i).toNat)
    case atStart => exact ⟨0, _, Nat.zero_le _, rfl, rfl, H0⟩
    case round =>
      obtain ⟨j, x, hj, rfl, rfl, hS⟩ := hrel
      by_cases hlt : j < n
      · obtain ⟨b, o, rfl, hb4, hc0⟩ := HA.out (by omega)
        have hc1 : At wr b o (n * 34) (ec es) := hc0.keep hS.out.keep hb4
        have ck := hc1.ent j hlt
        have zj : (0 : Int) ≤ (j : Int) := by omega
        have yj : (j : Int) < (n : Int) := by omega
        have HLT := Lib.hid hlt
        have N32 := NN.out
        have S1 := Lib.hid (hS.out.all ((Below.refl wr.heap.size wr).alloc (Nat.le_refl _) (.cells (arr 34 (ev (es j))) 56)))
        have BX : Hid (Blk (wr.alloc (.cells (arr 34 (ev (es j))) 56)) wr.heap.size 56 34 (ev (es j))) := Blk.newAt _ (heap_alloc_new _ _) rfl
        clear hc0 hc1 hb4 hlt
        go_upto_region 8 with (first | (refine wpList_val rfl _ _ (ex_load 56 (.tmp 22) rfl b (o + j * 34) 34 (ev (es j)) rfl Tryz.underlying56 rfl szEntry ck) ?_) | (refine wpList_store_blk rfl 56 (.tmp 7) (.tmp 23) rfl wr.heap.size 34 (ev (es j)) (ev ⟨[], 0, fun _ => 0⟩) rfl rfl 56 (Blk.newAt _ (heap_alloc_new _ _) rfl) szEntry (fun i _ => ev_one _ i) ?_))
        rw [World.setRow_alloc_new]
        clear ck hS
        generalize wr.alloc (.cells (arr 34 (ev (es j))) 56) = w6 at S1 BX ⊢
        generalize wr.heap.size = xb at BX ⊢
        obtain ⟨g, cap4, w7, hap, hN⟩ := S1.out.next (es j).id (es j).kind (by unfold kidH; rw [if_pos HLT.out]) (by omega)
        have HN := Lib.hid hN
        have cx1 : w6.cell? ⟨xb, 1, none⟩ = some (.int .i64 (es j).kind) := BX.out.cell 1 (by omega)
        clear hN
        refine wp_region_lit ?_
        refine wpList_valS (v := ?_) (by kernel_rfl) ?_ ?_
        rotate_left 1
        · (go_simp; try with_reducible rfl)
        try simp only [Act.put, List.setIfInBounds_toArray, List.set_cons_zero, List.set_cons_succ]
        refine wpList_valG (by kernel_rfl) (ex_fieldP fE2 (.tmp 7) rfl xb 0 rfl 2 rfl) ?_
        try simp only [Act.put, List.setIfInBounds_toArray, List.set_cons_zero, List.set_cons_succ]
        refine wpList_valG (by kernel_rfl) (ex_load 29 (.tmp 25) rfl xb 2 32 (bv (es j).id) rfl Tryz.underlying29 rfl sz30 (BX.out.at0.part 2 32 _ (by omega) (fun i _ => ev_id _ i))) ?_
        try simp only [Act.put, List.setIfInBounds_toArray, List.set_cons_zero, List.set_cons_succ]
        refine wpList_valS (v := ?_) (by kernel_rfl) ?_ ?_
        rotate_left 1
        · (go_simp; try with_reducible rfl)
        try simp only [Act.put, List.setIfInBounds_toArray, List.set_cons_zero, List.set_cons_succ]
        refine wpList_valS (v := ?_) (by kernel_rfl) ?_ ?_
        rotate_left 1
        · (go_simp; try with_reducible rfl)
        try simp only [Act.put, List.setIfInBounds_toArray, List.set_cons_zero, List.set_cons_succ]
        refine wpList_valG (by kernel_rfl) (ex_child (.tmp 26) (.tmp 28) rfl (es j).kind (es j).id rfl rfl) ?_
        try simp only [Act.put, List.setIfInBounds_toArray, List.set_cons_zero, List.set_cons_succ]
        refine wpList_valG (by kernel_rfl) (ex_bslice 40 58 (.tmp 29) rfl 33 (hv (es j).id (es j).kind) rfl tChildren zChild (by decide) (by decide)) ?_
        try simp only [Act.put, List.setIfInBounds_toArray, List.set_cons_zero, List.set_cons_succ]
        refine wpList_append_run rfl (.tmp 24) (.tmp 30) 40 40 rfl _ _ _ _ rfl rfl hap ?_
        try simp only [Act.put, List.setIfInBounds_toArray, List.set_cons_zero, List.set_cons_succ]
        refine wpList_valS (v := ?_) (by kernel_rfl) ?_ ?_
        rotate_left 1
        · (go_simp; try with_reducible rfl)
        try simp only [Act.put, List.setIfInBounds_toArray, List.set_cons_zero, List.set_cons_succ]
        refine wpList_nil ?_
        clear hap S1 BX cx1
        go_wp2
        go_roundw
        case rel => exact ⟨j + 1, _, HLT.out, by go_num, rfl, HN⟩
        case measure => simp [intOf]; have := HLT.out; omega
      · have ej : j = n := by omega
        have yj : (n : Int) ≤ (j : Int) := by omega
        subst ej
        clear hlt
        have S2 := hS
        have bo0 : wr.cell? ⟨w.heap.size, 0, none⟩ = some (.int .i64 k) := (hS.out.keep.blk BO3.out.lt BO3.out).cell 0 (by omega)
        have d33r : wr.cell? ⟨zs, 33, none⟩ = some (.slice ad2 c.n cap2) := hS.out.keep.cell zsl.out d33
        by_cases h3 : k = 3
        · subst h3
          rw [if_pos rfl] at KK
          have dtr := Lib.hid (HT.out.keep hS.out.keep zsl.out : At wr zs 1 32 (bv c.tree))
          obtain ⟨g, cap4, w7, hap, hN⟩ := hS.out.next c.tree 2 (by unfold kidH; rw [if_neg (by omega), if_pos rfl]) (by have := NN.out; omega)
          have d33s : w7.cell? ⟨zs, 33, none⟩ = some (.slice ad2 c.n cap2) := hN.keep.cell zsl.out d33
          have HN := Lib.hid hN
          clear hN d33r S2
          go_upto_region 11 with fail
          refine wp_region_lit ?_
          refine wpList_valS (v := ?_) (by kernel_rfl) ?_ ?_
          rotate_left 1
          · (go_simp; try with_reducible rfl)
          try simp only [Act.put, List.setIfInBounds_toArray, List.set_cons_zero, List.set_cons_succ]
          refine wpList_valG (by kernel_rfl) (ex_fieldP fS1 (.tmp 3) rfl zs 0 rfl 1 rfl) ?_
          try simp only [Act.put, List.setIfInBounds_toArray, List.set_cons_zero, List.set_cons_succ]
          refine wpList_valG (by kernel_rfl) (ex_fieldP fC0 (.tmp 37) rfl zs 1 rfl 1 rfl) ?_
          try simp only [Act.put, List.setIfInBounds_toArray, List.set_cons_zero, List.set_cons_succ]
          refine wpList_valG (by kernel_rfl) (ex_load 29 (.tmp 38) rfl zs 1 32 (bv c.tree) rfl Tryz.underlying29 rfl sz30 dtr.out) ?_
          try simp only [Act.put, List.setIfInBounds_toArray, List.set_cons_zero, List.set_cons_succ]
          refine wpList_valG (by kernel_rfl) (ex_child (.tmp 39) (.const (.int .i64 2)) rfl 2 c.tree rfl rfl) ?_
          try simp only [Act.put, List.setIfInBounds_toArray, List.set_cons_zero, List.set_cons_succ]
          refine wpList_valG (by kernel_rfl) (ex_bslice 40 58 (.tmp 40) rfl 33 (hv c.tree 2) rfl tChildren zChild (by decide) (by decide)) ?_
          try simp only [Act.put, List.setIfInBounds_toArray, List.set_cons_zero, List.set_cons_succ]
          refine wpList_append_run rfl (.tmp 36) (.tmp 41) 40 40 rfl _ _ _ _ rfl rfl hap ?_
          try simp only [Act.put, List.setIfInBounds_toArray, List.set_cons_zero, List.set_cons_succ]
          refine wpList_valS (v := ?_) (by kernel_rfl) ?_ ?_
          rotate_left 1
          · (go_simp; try with_reducible rfl)
          try simp only [Act.put, List.setIfInBounds_toArray, List.set_cons_zero, List.set_cons_succ]
          refine wpList_nil ?_
          clear hap hS dtr
          have N32 := NN.out
          go_wp2
          go_loopw [5, 47] (fun u i wq => ∃ (q : Nat) (x : Value), q ≤ c.n ∧ i = .int .i64 q ∧ x = u ∧ Hid (HS w3.heap.size w3 (kidH es j c) (j + 1 + q) x wq)) (fun _ i _ => c.n - (intOf i).toNat)
          case atStart => exact ⟨0, _, Nat.zero_le _, rfl, rfl, HN⟩
          case round =>
            rename_i wr0 _
            obtain ⟨q, x2, hq, rfl, rfl, hS2⟩ := hrel
            by_cases hlt : q < c.n
            · obtain ⟨b, o, rfl, hb4, hc0⟩ := HA2.out (by omega)
              have hc1 := hc0.keep hS2.out.keep hb4
              have ck := hc1.idk q hlt
              have zj : (0 : Int) ≤ (q : Int) := by omega
              have yj : (q : Int) < (c.n : Int) := by omega
              have HLT := Lib.hid hlt
              have C4 := CN.out
              have S1 := Lib.hid (hS2.out.all ((Below.refl wr.heap.size wr).alloc (Nat.le_refl _) (.cells (arr 32 (bv (c.par q))) 29)))
              have BX : Hid (Blk (wr.alloc (.cells (arr 32 (bv (c.par q))) 29)) wr.heap.size 29 32 (bv (c.par q))) := Blk.newAt _ (heap_alloc_new _ _) rfl
              clear hc0 hc1 hb4 hlt
              go_upto_region 15 with (first | (refine wpList_val rfl _ _ (ex_load 29 (.tmp 49) rfl b (o + q * 32) 32 (bv (c.par q)) rfl Tryz.underlying29 rfl sz30 ck) ?_) | (refine wpList_store_blk rfl 29 (.tmp 9) (.tmp 50) rfl wr.heap.size 32 (bv (c.par q)) (bv fun _ => 0) rfl rfl 29 (Blk.newAt _ (heap_alloc_new _ _) rfl) sz30 (fun _ _ => rfl) ?_))
              rw [World.setRow_alloc_new]
              clear ck hS2
              generalize wr.alloc (.cells (arr 32 (bv (c.par q))) 29) = w6 at S1 BX ⊢
              generalize wr.heap.size = xb at BX ⊢
              obtain ⟨g2, cap5, w8, hap, hN2⟩ := S1.out.next (c.par q) 3 (by unfold kidH; rw [if_neg (by omega), if_neg (by omega), show j + 1 + q - j - 1 = q by omega]) (by omega)
              have HN2 := Lib.hid hN2
              clear hN2
              refine wp_region_lit ?_
              refine wpList_valS (v := ?_) (by kernel_rfl) ?_ ?_
              rotate_left 1
              · (go_simp; try with_reducible rfl)
              try simp only [Act.put, List.setIfInBounds_toArray, List.set_cons_zero, List.set_cons_succ]
              refine wpList_valG (by kernel_rfl) (ex_load 29 (.tmp 9) rfl xb 0 32 (bv (c.par q)) rfl Tryz.underlying29 rfl sz30 BX.out.at0) ?_
              try simp only [Act.put, List.setIfInBounds_toArray, List.set_cons_zero, List.set_cons_succ]
              refine wpList_valG (by kernel_rfl) (ex_child (.tmp 52) (.const (.int .i64 3)) rfl 3 (c.par q) rfl rfl) ?_
              try simp only [Act.put, List.setIfInBounds_toArray, List.set_cons_zero, List.set_cons_succ]
              refine wpList_valG (by kernel_rfl) (ex_bslice 40 58 (.tmp 53) rfl 33 (hv (c.par q) 3) rfl tChildren zChild (by decide) (by decide)) ?_
              try simp only [Act.put, List.setIfInBounds_toArray, List.set_cons_zero, List.set_cons_succ]
              refine wpList_append_run rfl (.tmp 51) (.tmp 54) 40 40 rfl _ _ _ _ rfl rfl hap ?_
              try simp only [Act.put, List.setIfInBounds_toArray, List.set_cons_zero, List.set_cons_succ]
              refine wpList_valS (v := ?_) (by kernel_rfl) ?_ ?_
              rotate_left 1
              · (go_simp; try with_reducible rfl)
              try simp only [Act.put, List.setIfInBounds_toArray, List.set_cons_zero, List.set_cons_succ]
              refine wpList_nil ?_
              clear hap S1 BX
              go_wp2
              go_roundw
              case rel => exact ⟨q + 1, _, HLT.out, by go_num, rfl, HN2⟩
              case measure => simp [intOf]; have := HLT.out; omega
            · have ej : q = c.n := by omega
              have yj : (c.n : Int) ≤ (q : Int) := by omega
              have HEJ := Lib.hid ej
              clear hlt
              go_wp2
              go_ret
              refine ⟨x2, kidH es j c, _, rfl, owns_row hS2.out.row, ?_, L3.out.trans ((hS2.out.keep.below (Nat.le_refl _)).mono L3.out.size)⟩
              rw [HEJ.out]
              exact KK.out
        · have d3 : (k == 3) = false := by simpa using h3
          rw [if_neg h3] at KK
          have cn0 := C3.out h3
          have N32 := NN.out
          have HN := hS
          clear hS S2
          go_wp2
          go_loopw [5, 47] (fun u i wq => ∃ (q : Nat) (x : Value), i = .int .i64 q ∧ x = u ∧ Hid (HS w3.heap.size w3 (kidH es j c) j x wq)) (fun _ _ _ => 0)
          case atStart => exact ⟨0, _, rfl, rfl, HN⟩
          case round =>
            obtain ⟨q, x2, rfl, rfl, hS2⟩ := hrel
            have yj : (c.n : Int) ≤ (q : Int) := by omega
            have CN0 := Lib.hid cn0
            clear cn0
            go_wp2
            go_ret
            refine ⟨x2, kidH es j c, _, rfl, owns_row hS2.out.row, ?_, L3.out.trans ((hS2.out.keep.below (Nat.le_refl _)).mono L3.out.size)⟩
            have KO := KK.out
            rw [CN0.out] at KO
            exact KO
  · have NO := Lib.hid ho
    rw [decide_eq_false ho]
    clear ho
    go_wp2
    go_ret
    exact ⟨_, fun _ => (fun _ => 0, 0), 0, rfl, Row.nil _ _ _, ⟨fun _ => rfl, fun h => absurd h NO.out⟩, L3.out⟩
end Go.Proofs.YtlbclfponongbaaGreatDoor
