import Derived.Test.YtnmjcpoobabjgaaGreatDoorU0m
import Derived.Test.YtnmjcpoobabjgaaGreatDoorDW6m
import Derived.Test.YtnmjcpoobabjgaaGreatDoorDR1m
import Derived.Test.YtnmjcpoobabjgaaGreatDoorGJm
import Derived.Test.YtnmjcpoobabjgaaGreatDoorHLm
import Derived.Test.YtnmjcpoobabjgaaGreatDoorQ7m
set_option linter.unusedVariables false
set_option linter.unusedSimpArgs false
/- The reference's frame. -/
namespace Go.Proofs.YtnmjcpoobabjgaaGreatDoor
open Go.RowKit Classical
set_option maxHeartbeats 2000000 in
set_option maxRecDepth 100000 in
theorem qframe_any (k : Int) (l : List UInt8) (w : World) (hk : k = 1 ∨ k = 2 ∨ k = 3) (hl : l.length ≤ 4096) :
    Calls Tryz.prog 55 #[.agg #[.int .i64 k, .string (bs l)]] w fun e w' => e = .returned (.string (bs (fb k l))) ∧ Below w.heap.size w w' := by
  have L0 : Hid (Below w.heap.size w (w.alloc (.cells #[.int .i64 k, .string (bs l)] 43))) := (Below.refl _ _).alloc (Nat.le_refl _) _
  have c0 : (w.alloc (.cells #[.int .i64 k, .string (bs l)] 43)).cell? ⟨w.heap.size, 0, none⟩ = some (.int .i64 k) := cell_of_row _ _ _ _ _ _ (heap_alloc_new _ _)
  have c1 : (w.alloc (.cells #[.int .i64 k, .string (bs l)] 43)).cell? ⟨w.heap.size, 1, none⟩ = some (.string (bs l)) := cell_of_row _ _ _ _ _ _ (heap_alloc_new _ _)
  have HT := Lib.hid (fun W => reftext_any l W (by omega))
  have hap : bs [lt k] ++ bs (tx l) = bs (fb k l) := by rw [bs_append]; rfl
  have hsz : ¬ 9223372036854775807 < (bs [lt k]).size + (bs (tx l)).size := by
    rw [bs_size, bs_size, tx_len]
    have := dg_le6 (clamp_le (l.length : Int))
    simp only [List.length_singleton]
    omega
  generalize bs (fb k l) = F at hap ⊢
  generalize bs (tx l) = t at HT hap hsz
  generalize bs l = sb at HT c0 c1 L0 ⊢
  clear hl
  rcases hk with rfl | rfl | rfl
  · rw [show bs [lt 1] = (⟨#[98]⟩ : ByteArray) from rfl] at hap hsz
    go_enter Tryz.func55, Tryz.ntmps55
    go_wp2_with fail
    refine (HT.out _).mono ?_
    rintro e w2 ⟨rfl, L2⟩
    have L3 := Lib.hid (L0.out.trans (L2.mono L0.out.size))
    clear L2 L0 HT c0 c1
    go_wp2
    go_ret
    exact ⟨rfl, L3.out⟩
  · rw [show bs [lt 2] = (⟨#[116]⟩ : ByteArray) from rfl] at hap hsz
    go_enter Tryz.func55, Tryz.ntmps55
    go_wp2_with fail
    refine (HT.out _).mono ?_
    rintro e w2 ⟨rfl, L2⟩
    have L3 := Lib.hid (L0.out.trans (L2.mono L0.out.size))
    clear L2 L0 HT c0 c1
    go_wp2
    go_ret
    exact ⟨rfl, L3.out⟩
  · rw [show bs [lt 3] = (⟨#[99]⟩ : ByteArray) from rfl] at hap hsz
    go_enter Tryz.func55, Tryz.ntmps55
    go_wp2_with fail
    refine (HT.out _).mono ?_
    rintro e w2 ⟨rfl, L2⟩
    have L3 := Lib.hid (L0.out.trans (L2.mono L0.out.size))
    clear L2 L0 HT c0 c1
    go_wp2
    go_ret
    exact ⟨rfl, L3.out⟩
end Go.Proofs.YtnmjcpoobabjgaaGreatDoor
/- An object's id, by the reference. -/
namespace Go.Proofs.YtnmjcpoobabjgaaGreatDoor
open Go.RowKit Classical
set_option maxHeartbeats 2000000 in
set_option maxRecDepth 100000 in
theorem qidd_any (k : Int) (l : List UInt8) (w : World) (hk : k = 1 ∨ k = 2 ∨ k = 3) (hl : l.length ≤ 4096) :
    Calls Tryz.prog 33 #[.agg #[.int .i64 k, .string (bs l)]] w fun e w' => e = .returned (.agg (arr 32 (bv (idD k l)))) ∧ Below w.heap.size w w' := by
  have z1 : (w.alloc (.cells #[.int .i64 k, .string (bs l)] 43)).heap.size = w.heap.size + 1 := by simp
  have BZ : Hid (Blk ((w.alloc (.cells #[.int .i64 k, .string (bs l)] 43)).alloc (.cells (arr 32 (bv fun _ => 0)) 37)) (w.heap.size + 1) 37 32 (bv fun _ => 0)) := by
    show Blk _ _ _ _ _
    rw [← z1]; exact Blk.newAt _ (heap_alloc_new _ _) rfl
  have L0 : Hid (Below w.heap.size w ((w.alloc (.cells #[.int .i64 k, .string (bs l)] 43)).alloc (.cells (arr 32 (bv fun _ => 0)) 37))) := ((Below.refl _ _).alloc (Nat.le_refl _) _).alloc (by simp) _
  have c0 : ((w.alloc (.cells #[.int .i64 k, .string (bs l)] 43)).alloc (.cells (arr 32 (bv fun _ => 0)) 37)).cell? ⟨w.heap.size, 0, none⟩ = some (.int .i64 k) := cell_of_row _ _ _ _ _ _ (heap_alloc2_old _ _ _)
  have c1 : ((w.alloc (.cells #[.int .i64 k, .string (bs l)] 43)).alloc (.cells (arr 32 (bv fun _ => 0)) 37)).cell? ⟨w.heap.size, 1, none⟩ = some (.string (bs l)) := cell_of_row _ _ _ _ _ _ (heap_alloc2_old _ _ _)
  have HF := Lib.hid (fun W => qframe_any k l W hk hl)
  have HS : Hid (∀ W, Calls Tryz.prog 54 #[.string (bs (fb k l))] W fun e w' => e = .returned (.agg (arr 32 (bv (idD k l)))) ∧ Below W.heap.size W w') := fun W => Dg.refsum_any (bs (fb k l)) W (fb_size k l hl)
  generalize idD k l = D at HS ⊢
  generalize bs (fb k l) = F at HF HS
  clear z1 hk hl
  go_enter Tryz.func33, Tryz.ntmps33
  go_upto_region 1 with fail
  change Code.wp _ _ _ _ ((w.alloc (.cells #[.int .i64 k, .string (bs l)] 43)).alloc (.cells (arr 32 (bv fun _ => 0)) 37))
  generalize (w.alloc (.cells #[.int .i64 k, .string (bs l)] 43)).alloc (.cells (arr 32 (bv fun _ => 0)) 37) = w1 at BZ L0 c0 c1 ⊢
  refine wp_region_lit ?_
  refine wpList_valS (v := ?_) (by kernel_rfl) ?_ ?_
  rotate_left 1
  · (go_simp; try with_reducible rfl)
  try simp only [Act.put, tA, tZ, tS]
  refine wpList_callG (by kernel_rfl) fun K hK => ?_
  go_simp
  refine (HF.out _).mono ?_
  rintro e w2 ⟨rfl, L2⟩
  refine hK _ _ ?_
  clear hK K
  try simp only [Act.put, tA, tZ, tS]
  have B2 := Lib.hid (BZ.out.below L2 BZ.out.lt)
  have L2' := Lib.hid (L0.out.trans (L2.mono L0.out.size))
  clear L2 L0 BZ c0 c1 HF
  refine wpList_callG (by kernel_rfl) fun K hK => ?_
  go_simp
  refine (HS.out _).mono ?_
  rintro e w6 ⟨rfl, L6⟩
  refine hK _ _ ?_
  clear hK K
  try simp only [Act.put, tA, tZ, tS]
  have B6 := Lib.hid (B2.out.below L6 B2.out.lt)
  have L6' := Lib.hid (L2'.out.trans (L6.mono L2'.out.size))
  clear L6 HS B2 L2'
  refine wpList_unitG (by kernel_rfl) (ex_store 37 (.tmp 2) (.tmp 5) rfl (w.heap.size + 1) 0 32 (bv D) rfl rfl (B6.out.there 0 32 (by omega)) sz30 (fun _ _ => rfl)) ?_
  try simp only [Act.put, tA, tZ, tS]
  refine wpList_nil ?_
  have B7 := B6.out.over (bv D)
  have KZ := keep_setCells (b := w.heap.size + 1) (arr 32 (bv D)).toList 0 w6
  have L7 : Hid (Below w.heap.size w (w6.setCells (w.heap.size + 1) 0 (arr 32 (bv D)).toList)) := ((Keep.of_below L6'.out (fun b hb _ => hb) : Keep (fun b => b < w.heap.size) w w6).trans (KZ.mono fun b hb _ => by omega)).below (Nat.le_refl _)
  clear B6 L6' KZ
  generalize w6.setCells (w.heap.size + 1) 0 (arr 32 (bv D)).toList = w7 at B7 L7 ⊢
  go_wp2
  exact bodyPost_ret (v := .agg (arr 32 (bv D))) (results_blk rfl _ _ (w.heap.size + 1) 37 32 _ B7 _ rfl ty30 rfl sz30) rfl ⟨rfl, L7.out⟩
end Go.Proofs.YtnmjcpoobabjgaaGreatDoor
/- The document's pack of parts. -/
namespace Go.Proofs.YtnmjcpoobabjgaaGreatDoor
set_option maxRecDepth 100000
open Go.RowKit Classical
theorem idx_skip {f : Nat → UInt8} {L : List (Nat → UInt8)} {k : Nat} (hk : k < L.length) : idx f (L.drop k) k = if same32 f (L.getD k zf) then some k else idx f (L.drop (k + 1)) (k + 1) := by
  rw [List.drop_eq_getElem_cons hk, idx, List.getD_eq_getElem?_getD, List.getElem?_eq_getElem hk]; rfl
set_option maxHeartbeats 2000000 in
theorem qfind_any {L : List (Nat → UInt8)} {v : Value} {w : World} (f : Nat → UInt8) (hR : RowD w v L) (hn : L.length ≤ 100000) :
    Calls Tryz.prog 21 #[v, .agg (arr 32 (bv f))] w fun e w' => e = .returned (.int .i64 (fnd f L)) ∧ Below w.heap.size w w' := by
  obtain ⟨ad, cap, rfl, hc⟩ := RowD.cells hR
  obtain ⟨n, hn1⟩ : ∃ n, n = L.length := ⟨_, rfl⟩
  rw [← hn1] at hc hn ⊢
  have hb : Below w.heap.size w (w.alloc (.cells (arr 32 (bv f)) 37)) := (Below.refl _ _).alloc (Nat.le_refl _) _
  have L1 := Lib.hid hb
  have BF : Hid (Blk (w.alloc (.cells (arr 32 (bv f)) 37)) w.heap.size 37 32 (bv f)) := Blk.newAt _ (heap_alloc_new _ _) rfl
  have HC : Hid (∀ k, k < n → ∃ b o, ad = some ⟨b, o, none⟩ ∧ b < (w.alloc (.cells (arr 32 (bv f)) 37)).heap.size ∧ At (w.alloc (.cells (arr 32 (bv f)) 37)) b (o + k * 32) 32 (bv (L.getD k zf))) := fun k hk => by
    obtain ⟨b, o, h1, h2, h3⟩ := hc k hk
    exact ⟨b, o, h1, by simp; omega, h3.below hb h2⟩
  obtain ⟨R, hRR⟩ : ∃ R, R = fnd f L := ⟨_, rfl⟩
  rw [← hRR]
  have HR0 : Hid (R = match idx f (L.drop 0) 0 with | some j => (j : Int) | none => -1) := by show _ = _; rw [List.drop_zero, hRR]; rfl
  have HSt : Hid (∀ k, k < n → (same32 (L.getD k zf) f → (R = match idx f (L.drop k) k with | some j => (j : Int) | none => -1) → R = (k : Int)) ∧ (¬ same32 (L.getD k zf) f → (R = match idx f (L.drop k) k with | some j => (j : Int) | none => -1) → R = match idx f (L.drop (k + 1)) (k + 1) with | some j => (j : Int) | none => -1)) := fun k hk => by
    rw [idx_skip (by omega)]
    refine ⟨fun h1 h2 => ?_, fun h1 h2 => ?_⟩
    · rw [if_pos (same32_symm h1)] at h2; exact h2
    · rw [if_neg (fun h => h1 (same32_symm h))] at h2; exact h2
  have HE : Hid (∀ k, (R = match idx f (L.drop n) k with | some j => (j : Int) | none => -1) → R = -1) := fun k h => by
    rw [hn1, List.drop_length] at h; exact h
  obtain ⟨st, hst⟩ : ∃ st : Nat → Prop, st = fun k => R = match idx f (L.drop k) k with | some j => (j : Int) | none => -1 := ⟨_, rfl⟩
  have H0 : Hid (st 0) := by rw [hst]; exact HR0.out
  have H1 : Hid (∀ k, k < n → (same32 (L.getD k zf) f → st k → R = (k : Int)) ∧ (¬ same32 (L.getD k zf) f → st k → st (k + 1))) := by rw [hst]; exact HSt.out
  have H2 : Hid (st n → R = -1) := by rw [hst]; exact HE.out n
  clear hb hR hc hRR hn1 HR0 HSt HE hst
  go_enter Tryz.func21, Tryz.ntmps21
  go_upto_region 1 with fail
  change Code.wp _ _ _ _ (w.alloc (.cells (arr 32 (bv f)) 37))
  generalize w.alloc (.cells (arr 32 (bv f)) 37) = W0 at L1 BF HC ⊢
  go_wp2
  go_loopw [5] (fun i wr => ∃ k : Nat, k ≤ n ∧ i = .int .i64 (k : Int) ∧ Hid (st k) ∧ Hid (Below W0.heap.size W0 wr)) (fun i _ => n - (intOf i).toNat)
  case atStart => exact ⟨0, Nat.zero_le _, rfl, H0, Below.refl _ _⟩
  case round =>
    obtain ⟨k, hk, rfl, hF, hB⟩ := hrel
    clear H0
    by_cases hlt : k < n
    · obtain ⟨b, o, rfl, q0, q1⟩ := HC.out k hlt
      have yk : (k : Int) < (n : Int) := by omega
      have y0 : (0 : Int) ≤ (k : Int) := by omega
      have w5 : IntKind.i64.wrap ((k : Int) + 1) = (k : Int) + 1 := IntWalk.i64_in _ (by omega)
      have A1 := Lib.hid (q1.below hB.out q0)
      have B1 := Lib.hid (BF.out.below hB.out BF.out.lt)
      have HS := Lib.hid (H1.out k hlt)
      have he := eqlId (L.getD k zf) f
      generalize L.getD k zf = g at *
      have S0 : At wr.drew b (o + k * 32) 32 (bv g) ∧ Blk wr.drew w.heap.size 37 32 (bv f) := ⟨A1.out, B1.out⟩
      have HKN : Hid (k < n) := hlt
      clear q0 q1
      go_upto_region 4 with fail
      by_cases c : same32 g f
      · rw [decide_eq_true c] at he
        have HE := Lib.hid (HS.out.1 c hF.out)
        have HL : Hid (Below w.heap.size w wr) := L1.out.trans (hB.out.mono L1.out.size)
        clear HS hF hB
        refine wp_region_noPanic ?_
        refine wp_region_held_drew (S := (fun W => At W b (o + k * 32) 32 (bv g) ∧ Blk W w.heap.size 37 32 (bv f))) (by kernel_rfl) S0 (fun hHeld => ?_)
        refine wpAnyH_take (i := 0) (oi := ⟨some 12, .move (.tmp 0), 30, "ref.go:23", #[], none⟩) (v := ?_) rfl (by kernel_rfl) (by kernel_rfl) (by kernel_rfl) (fun _ _ _ h => h) (Or.inl ⟨by kernel_rfl, ?_⟩) (by assumption) ?_
        rotate_left 1
        · (intro wS hSw; (try dsimp only at hSw); go_simp; try with_reducible rfl)
        try simp only [Act.put, tA, tZ, tS]
        refine wpAnyH_take (i := 1) (oi := ⟨some 13, .move (.tmp 5), 3, "ref.go:23", #[], none⟩) (v := ?_) rfl (by kernel_rfl) (by kernel_rfl) (by kernel_rfl) (fun _ _ _ h => h) (Or.inl ⟨by kernel_rfl, ?_⟩) (by assumption) ?_
        rotate_left 1
        · (intro wS hSw; (try dsimp only at hSw); go_simp; try with_reducible rfl)
        try simp only [Act.put, tA, tZ, tS]
        refine wpAnyH_take (i := 2) (oi := ⟨some 14, .indexAddr 30 (.tmp 12) (.tmp 13), 0, "ref.go:23", #[⟨0, .data⟩, ⟨1, .data⟩], none⟩) rfl (by kernel_rfl) (by kernel_rfl) (by kernel_rfl) (fun _ _ _ h => h) (Or.inl ⟨by kernel_rfl, fun wS hSw => ex_index 30 37 (.tmp 12) (.tmp 13) rfl b o k n cap 32 rfl rfl tIdP sz30 HKN.out⟩) (by assumption) ?_
        try simp only [Act.put, tA, tZ, tS]
        refine wpAnyH_take (i := 3) (oi := ⟨some 15, .load 37 (.tmp 14), 37, "ref.go:23", #[⟨2, .data⟩], none⟩) rfl (by kernel_rfl) (by kernel_rfl) (by kernel_rfl) (fun _ _ _ h => h) (Or.inl ⟨by kernel_rfl, fun wS hSw => ex_load 37 (.tmp 14) rfl b (o + k * 32) 32 (bv g) rfl ty30 rfl sz30 hSw.1⟩) (by assumption) ?_
        try simp only [Act.put, tA, tZ, tS]
        refine wpAnyH_take (i := 4) (oi := ⟨some 16, .load 37 (.tmp 3), 37, "ref.go:23", #[], none⟩) rfl (by kernel_rfl) (by kernel_rfl) (by kernel_rfl) (fun _ _ _ h => h) (Or.inl ⟨by kernel_rfl, fun wS hSw => ex_load 37 (.tmp 3) rfl w.heap.size 0 32 (bv f) rfl ty30 rfl sz30 hSw.2.at0⟩) (by assumption) ?_
        try simp only [Act.put, tA, tZ, tS]
        refine wpAnyH_take (i := 5) (oi := ⟨some 17, .binOp BinOp.eql 37 (.tmp 15) (.tmp 16) 37, 4, "ref.go:23", #[⟨3, .data⟩, ⟨4, .data⟩], none⟩) (v := ?_) rfl (by kernel_rfl) (by kernel_rfl) (by kernel_rfl) (fun _ _ _ h => h) (Or.inl ⟨by kernel_rfl, ?_⟩) (by assumption) ?_
        rotate_left 1
        · (intro wS hSw; (try dsimp only at hSw); go_simp; try with_reducible rfl)
        try simp only [Act.put, tA, tZ, tS]
        refine wpAnyH_done (by kernel_rfl) ?_ _
        refine NoPanic.normal ?_
        go_wp2
        go_ret
        exact ⟨by rw [HE.out]; rfl, HL.out.drew⟩
      · rw [decide_eq_false c] at he
        have HE := Lib.hid (HS.out.2 c hF.out)
        have HL : Hid (Below W0.heap.size W0 wr.drew) := hB.out.drew
        clear HS hF hB
        refine wp_region_noPanic ?_
        refine wp_region_held_drew (S := (fun W => At W b (o + k * 32) 32 (bv g) ∧ Blk W w.heap.size 37 32 (bv f))) (by kernel_rfl) S0 (fun hHeld => ?_)
        refine wpAnyH_take (i := 0) (oi := ⟨some 12, .move (.tmp 0), 30, "ref.go:23", #[], none⟩) (v := ?_) rfl (by kernel_rfl) (by kernel_rfl) (by kernel_rfl) (fun _ _ _ h => h) (Or.inl ⟨by kernel_rfl, ?_⟩) (by assumption) ?_
        rotate_left 1
        · (intro wS hSw; (try dsimp only at hSw); go_simp; try with_reducible rfl)
        try simp only [Act.put, tA, tZ, tS]
        refine wpAnyH_take (i := 1) (oi := ⟨some 13, .move (.tmp 5), 3, "ref.go:23", #[], none⟩) (v := ?_) rfl (by kernel_rfl) (by kernel_rfl) (by kernel_rfl) (fun _ _ _ h => h) (Or.inl ⟨by kernel_rfl, ?_⟩) (by assumption) ?_
        rotate_left 1
        · (intro wS hSw; (try dsimp only at hSw); go_simp; try with_reducible rfl)
        try simp only [Act.put, tA, tZ, tS]
        refine wpAnyH_take (i := 2) (oi := ⟨some 14, .indexAddr 30 (.tmp 12) (.tmp 13), 0, "ref.go:23", #[⟨0, .data⟩, ⟨1, .data⟩], none⟩) rfl (by kernel_rfl) (by kernel_rfl) (by kernel_rfl) (fun _ _ _ h => h) (Or.inl ⟨by kernel_rfl, fun wS hSw => ex_index 30 37 (.tmp 12) (.tmp 13) rfl b o k n cap 32 rfl rfl tIdP sz30 HKN.out⟩) (by assumption) ?_
        try simp only [Act.put, tA, tZ, tS]
        refine wpAnyH_take (i := 3) (oi := ⟨some 15, .load 37 (.tmp 14), 37, "ref.go:23", #[⟨2, .data⟩], none⟩) rfl (by kernel_rfl) (by kernel_rfl) (by kernel_rfl) (fun _ _ _ h => h) (Or.inl ⟨by kernel_rfl, fun wS hSw => ex_load 37 (.tmp 14) rfl b (o + k * 32) 32 (bv g) rfl ty30 rfl sz30 hSw.1⟩) (by assumption) ?_
        try simp only [Act.put, tA, tZ, tS]
        refine wpAnyH_take (i := 4) (oi := ⟨some 16, .load 37 (.tmp 3), 37, "ref.go:23", #[], none⟩) rfl (by kernel_rfl) (by kernel_rfl) (by kernel_rfl) (fun _ _ _ h => h) (Or.inl ⟨by kernel_rfl, fun wS hSw => ex_load 37 (.tmp 3) rfl w.heap.size 0 32 (bv f) rfl ty30 rfl sz30 hSw.2.at0⟩) (by assumption) ?_
        try simp only [Act.put, tA, tZ, tS]
        refine wpAnyH_take (i := 5) (oi := ⟨some 17, .binOp BinOp.eql 37 (.tmp 15) (.tmp 16) 37, 4, "ref.go:23", #[⟨3, .data⟩, ⟨4, .data⟩], none⟩) (v := ?_) rfl (by kernel_rfl) (by kernel_rfl) (by kernel_rfl) (fun _ _ _ h => h) (Or.inl ⟨by kernel_rfl, ?_⟩) (by assumption) ?_
        rotate_left 1
        · (intro wS hSw; (try dsimp only at hSw); go_simp; try with_reducible rfl)
        try simp only [Act.put, tA, tZ, tS]
        refine wpAnyH_done (by kernel_rfl) ?_ _
        refine NoPanic.normal ?_
        go_wp2
        go_roundw
        case rel => exact ⟨k + 1, by omega, by go_num, HE, HL⟩
        case measure => simp [intOf]; omega
    · have e : k = n := by omega
      subst e
      have HE := Lib.hid (H2.out hF.out)
      have HL : Hid (Below w.heap.size w wr) := L1.out.trans (hB.out.mono L1.out.size)
      clear hlt hF hB
      go_wp2
      go_ret
      exact ⟨by rw [HE.out]; rfl, HL.out⟩
end Go.Proofs.YtnmjcpoobabjgaaGreatDoor
/- The document's pack of parts. -/
namespace Go.Proofs.YtnmjcpoobabjgaaGreatDoor
set_option maxRecDepth 100000
open Go.RowKit Classical
def qrdv (o : Option (Int × List UInt8)) : Value := match o with | some x => .tuple #[.agg #[.int .i64 x.1, .string (bs x.2)], .bool true] | none => .tuple #[.agg #[.int .i64 0, .string ⟨#[]⟩], .bool false]
theorem qread2_any (f : List UInt8) (w : World) (hf : f.length ≤ 6000) : Calls Tryz.prog 32 #[.string (bs f)] w fun e w' => e = .returned (qrdv (frameOf f)) ∧ Below w.heap.size w w' :=
 (qread_any f w hf).mono fun e w' h => ⟨by
  cases hh : frameOf f with
  | none => exact h.2.1 (frameOf_none.1 hh)
  | some o => exact h.1 o.1 o.2 (frameOf_some.1 hh), h.2.2⟩
theorem four_set10 {w : World} {p : Nat} {E : TypeId} {x y z t : Value} (h : w.heap[p]? = some (.cells #[x, y, z, t] E (0, 0))) (a b c d : Value) : ((((w.setCell ⟨p, 0, none⟩ a).setCell ⟨p, 1, none⟩ b).setCell ⟨p, 2, none⟩ c).setCell ⟨p, 3, none⟩ d).heap[p]? = some (.cells #[a, b, c, d] E (0, 0)) := by
 rw [heap_setCell_same _ p 3 _ E _ (heap_setCell_same _ p 2 _ E _ (heap_setCell_same _ p 1 _ E _ (heap_setCell_same w p 0 _ E _ h)))]; rfl
/- the room in which the document's pack is made: w the world at the call, w1 the one behind the texts -/
structure QL (w w1 : World) (vp vo vd : Value) (l1 : List (Int × List UInt8)) (l2 : List (Nat → UInt8)) (W : World) : Prop where
 kp : Keep (fun k => k < w1.heap.size ∧ k ≠ w.heap.size + 1) w1 W
 b0 : Below w.heap.size w W
 bR : W.heap[w.heap.size]? = some (.cells #[.slice none 0 0, .slice none 0 0, .slice none 0 0, .slice none 0 0] 32 (0, 0))
 bl : W.heap[w.heap.size + 1]? = some (.cells #[vp, .slice none 0 0, vo, vd] 32 (0, 0))
 oo : OwnO W w1.heap.size vo l1
 od : OwnD W w1.heap.size vd l2
 sp : Sep vo vd
 hz : w.heap.size + 2 ≤ w1.heap.size
 ge : w1.heap.size ≤ W.heap.size
theorem QL.below {w w1 : World} {vp vo vd : Value} {l1 : List (Int × List UInt8)} {l2 : List (Nat → UInt8)} {W W' : World} (h : QL w w1 vp vo vd l1 l2 W) (hb : Below W.heap.size W W') : QL w w1 vp vo vd l1 l2 W' :=
 ⟨h.kp.trans (Keep.all hb), h.b0.trans (hb.mono h.b0.size), by rw [hb.block _ (lt_of_block h.bR)]; exact h.bR, by rw [hb.block _ (lt_of_block h.bl)]; exact h.bl, h.oo.all hb, h.od.all hb, h.sp, h.hz, Nat.le_trans h.ge hb.size⟩
theorem QL.four {w w1 : World} {vp vo vd : Value} {l1 : List (Int × List UInt8)} {l2 : List (Nat → UInt8)} {W : World} (h : QL w w1 vp vo vd l1 l2 W) (a b c d : Value) : Below w.heap.size w ((((W.setCell ⟨w.heap.size, 0, none⟩ a).setCell ⟨w.heap.size, 1, none⟩ b).setCell ⟨w.heap.size, 2, none⟩ c).setCell ⟨w.heap.size, 3, none⟩ d) :=
 (((h.b0.setCell (Nat.le_refl _) a).setCell (Nat.le_refl _) b).setCell (Nat.le_refl _) c).setCell (Nat.le_refl _) d
theorem OwnG.four {α : Type} {e m : Nat} {g : α → Nat → Value} {d0 : α} {w : World} {B : Nat} {v : Value} {l : List α} (h : OwnG e m g d0 w B v l) {p : Nat} (hp : p + 2 ≤ B) (a b c d : Value) : OwnG e m g d0 ((((w.setCell ⟨p, 0, none⟩ a).setCell ⟨p, 1, none⟩ b).setCell ⟨p, 2, none⟩ c).setCell ⟨p, 3, none⟩ d) B v l :=
 (((h.setCell (p := ⟨p, 0, none⟩) (by show p < B; omega) a).setCell (p := ⟨p, 1, none⟩) (by show p < B; omega) b).setCell (p := ⟨p, 2, none⟩) (by show p < B; omega) c).setCell (p := ⟨p, 3, none⟩) (by show p < B; omega) d
theorem QL.obj {w w1 : World} {vp vo vd : Value} {l1 : List (Int × List UInt8)} {l2 : List (Nat → UInt8)} {W : World} (h : QL w w1 vp vo vd l1 l2 W) (x : Int × List UInt8) (hn : l1.length + 1 ≤ 100000) :
  ∃ b cap W6, (Builtin.append_ #[29, 29] 29 #[vo, .slice (some ⟨W.heap.size, 0, none⟩) 1 1]).run Tryz.prog (W.alloc (.cells #[.int .i64 x.1, .string (bs x.2)] 43)) = .ok (.slice (some ⟨b, 0, none⟩) (l1.length + 1) cap) W6 ∧
   QL w w1 vp (.slice (some ⟨b, 0, none⟩) (l1.length + 1) cap) vd (l1 ++ [x]) l2 (W6.setCell ⟨w.heap.size + 1, 2, none⟩ (.slice (some ⟨b, 0, none⟩) (l1.length + 1) cap)) ∧
   W6.cell? ⟨w.heap.size + 1, 2, none⟩ = some vo ∧ W6.frozen? ⟨w.heap.size + 1, 2, none⟩ = false ∧ Keep (fun k => vo.ownBlock ≠ some k) W W6 := by
 have hz := h.hz
 obtain ⟨b, cap, W6, hr, o6, d6, s6, B6, K6⟩ := app_gk (u := vd) tOs iOs rfl (by decide) (by decide) gO_one x _ rfl h.oo h.od h.sp h.ge hn
 have hb : W6.heap[w.heap.size + 1]? = some (.cells #[vp, .slice none 0 0, vo, vd] 32 (0, 0)) := by rw [B6.block _ (by omega)]; exact h.bl
 refine ⟨b, cap, W6, hr, ⟨?_, ?_, ?_, ?_, o6.setCell (by show w.heap.size + 1 < _; omega) _, d6.setCell (by show w.heap.size + 1 < _; omega) _, s6, hz, ?_⟩, cell_of_row _ _ 2 _ _ _ hb, frozen_of_row _ _ 2 _ _ hb, K6⟩
 ·exact (h.kp.trans (Keep.of_below B6 (fun k hk _ => hk.1))).setCell (fun hh => hh.2 rfl) _
 ·exact (h.b0.trans (B6.mono (by omega))).setCell (by show w.heap.size ≤ w.heap.size + 1; omega) _
 ·rw [heap_setCell_other _ ⟨w.heap.size + 1, 2, none⟩ _ _ (by show w.heap.size ≠ w.heap.size + 1; omega), B6.block _ (by omega)]; exact h.bR
 ·rw [heap_setCell_same _ _ 2 _ _ _ hb]; rfl
 ·rw [World.size_setCell]; exact Nat.le_trans h.ge B6.size
theorem QL.idd {w w1 : World} {vp vo vd : Value} {l1 : List (Int × List UInt8)} {l2 : List (Nat → UInt8)} {W : World} (h : QL w w1 vp vo vd l1 l2 W) (x : Nat → UInt8) (hn : l2.length + 1 ≤ 100000) :
  ∃ b cap W6, (Builtin.append_ #[30, 30] 30 #[vd, .slice (some ⟨W.heap.size, 0, none⟩) 1 1]).run Tryz.prog (W.alloc (.cells (arr 32 (bv x)) 37)) = .ok (.slice (some ⟨b, 0, none⟩) (l2.length + 1) cap) W6 ∧
   QL w w1 vp vo (.slice (some ⟨b, 0, none⟩) (l2.length + 1) cap) l1 (l2 ++ [x]) (W6.setCell ⟨w.heap.size + 1, 3, none⟩ (.slice (some ⟨b, 0, none⟩) (l2.length + 1) cap)) ∧
   W6.cell? ⟨w.heap.size + 1, 3, none⟩ = some vd ∧ W6.frozen? ⟨w.heap.size + 1, 3, none⟩ = false := by
 have hz := h.hz
 obtain ⟨b, cap, W6, hr, d6, o6, s6, B6, K6⟩ := app_gk (u := vo) tIds iId (by decide +kernel) (by decide) (by decide) (fun _ _ => rfl) x _ rfl h.od h.oo h.sp.symm h.ge hn
 have hb : W6.heap[w.heap.size + 1]? = some (.cells #[vp, .slice none 0 0, vo, vd] 32 (0, 0)) := by rw [B6.block _ (by omega)]; exact h.bl
 refine ⟨b, cap, W6, hr, ⟨?_, ?_, ?_, ?_, o6.setCell (by show w.heap.size + 1 < _; omega) _, d6.setCell (by show w.heap.size + 1 < _; omega) _, s6.symm, hz, ?_⟩, cell_of_row _ _ 3 _ _ _ hb, frozen_of_row _ _ 3 _ _ hb⟩
 ·exact (h.kp.trans (Keep.of_below B6 (fun k hk _ => hk.1))).setCell (fun hh => hh.2 rfl) _
 ·exact (h.b0.trans (B6.mono (by omega))).setCell (by show w.heap.size ≤ w.heap.size + 1; omega) _
 ·rw [heap_setCell_other _ ⟨w.heap.size + 1, 3, none⟩ _ _ (by show w.heap.size ≠ w.heap.size + 1; omega), B6.block _ (by omega)]; exact h.bR
 ·rw [heap_setCell_same _ _ 3 _ _ _ hb]; rfl
 ·rw [World.size_setCell]; exact Nat.le_trans h.ge B6.size
theorem own_block {α : Type} {e m : Nat} {g : α → Nat → Value} {d : α} {w : World} {B n cap b o : Nat} {l : List α} (h : OwnG e m g d w B (.slice (some ⟨b, o, none⟩) n cap) l) : B ≤ b := (own_lt h rfl).1
set_option maxHeartbeats 8000000 in
theorem qof_any {l : List Pt} {v : Value} {w : World} (hv : RowP w v l) (hs : l.length ≤ 10000) (ht : ∀ x ∈ l, x.t.length ≤ 50000) :
  Calls Tryz.prog 10 #[v] w fun e w' => Below w.heap.size w w' ∧ ((∃ os, packR l = some os ∧ ∃ vo vd, e = .returned (.tuple #[.agg #[v, .slice none 0 0, vo, vd], .bool true]) ∧ OwnO w' w.heap.size vo os ∧ OwnD w' w.heap.size vd (os.map oid)) ∨ (packR l = none ∧ ∃ ao no co ad nd cd, e = .returned (.tuple #[.agg #[v, .slice none 0 0, .slice ao no co, .slice ad nd cd], .bool false]))) := by
 have C1 : Hid (∀ W, RowP W v l → _) := Lib.hid (fun W h => qall_any9 (w := W) h hs ht)
 have HS := allT_small (l := l)
 obtain ⟨R, hR⟩ : ∃ R, R = packR l := ⟨_, rfl⟩
 rw [← hR]
 unfold packR at hR
 have hlen : (allT l).1.length ≤ 10000 := by
  have : (allT l).1.length ≤ l.length := allR_len
  omega
 obtain ⟨T, er, hTe⟩ : ∃ T er, allT l = (T, er) := ⟨_, _, rfl⟩
 rw [hTe] at C1 hR HS hlen
 dsimp only at C1 hR HS hlen
 obtain ⟨av, n, cv, rfl⟩ : ∃ ad n cap, v = .slice ad n cap := by
  obtain ⟨x1, x2, x3⟩ := RowG.len hv
  exact ⟨_, _, _, x3⟩
 have hA0 : Below w.heap.size w ((w.alloc (.cells #[.slice none 0 0, .slice none 0 0, .slice none 0 0, .slice none 0 0] 32)).alloc (.cells #[.slice av n cv, .slice none 0 0, .slice none 0 0, .slice none 0 0] 32)) := ((Below.refl _ _).alloc (Nat.le_refl _) _).alloc (by simp) _
 have HV := Lib.hid (RowG.below hv hA0)
 have A0 := Lib.hid hA0
 have BR0 : Hid (((w.alloc (.cells #[.slice none 0 0, .slice none 0 0, .slice none 0 0, .slice none 0 0] 32)).alloc (.cells #[.slice av n cv, .slice none 0 0, .slice none 0 0, .slice none 0 0] 32)).heap[w.heap.size]? = some (.cells #[.slice none 0 0, .slice none 0 0, .slice none 0 0, .slice none 0 0] 32 (0, 0))) := heap_alloc2_old _ _ _
 have BP0 : Hid (((w.alloc (.cells #[.slice none 0 0, .slice none 0 0, .slice none 0 0, .slice none 0 0] 32)).alloc (.cells #[.slice av n cv, .slice none 0 0, .slice none 0 0, .slice none 0 0] 32)).heap[w.heap.size + 1]? = some (.cells #[.slice av n cv, .slice none 0 0, .slice none 0 0, .slice none 0 0] 32 (0, 0))) := by
  show _ = _
  have := heap_alloc_new (w.alloc (.cells #[.slice none 0 0, .slice none 0 0, .slice none 0 0, .slice none 0 0] 32)) (.cells #[.slice av n cv, .slice none 0 0, .slice none 0 0, .slice none 0 0] 32)
  rwa [World.size_alloc] at this
 have zA : Hid (((w.alloc (.cells #[.slice none 0 0, .slice none 0 0, .slice none 0 0, .slice none 0 0] 32)).alloc (.cells #[.slice av n cv, .slice none 0 0, .slice none 0 0, .slice none 0 0] 32)).heap.size = w.heap.size + 2) := by show _ = _; simp
 clear hv hs ht hTe hA0
 by_cases h0 : er = 0
 ·subst h0
  rw [if_pos rfl] at hR
  have HR0 := Lib.hid hR
  clear hR
  have CR : Hid (∀ k, k < T.length → ∀ W, Calls Tryz.prog 32 #[.string (bs (T.getD k []))] W fun e w' => e = .returned (qrdv (frameOf (T.getD k []))) ∧ Below W.heap.size W w') := fun k hk W => qread2_any _ W (by have := HS _ (getD_mem T [] k hk); omega)
  go_enter Tryz.func10, Tryz.ntmps10
  go_wp2_with fail
  refine (C1.out _ HV.out).mono ?_
  rintro e w1 ⟨u, rfl, hO, B1⟩
  have hO2 := hO
  rw [zA.out] at hO2
  have HO := Lib.hid hO2
  obtain ⟨au, m, cu, hn, rfl⟩ : ∃ ad n cap, n = T.length ∧ u = .slice ad n cap := by
   obtain ⟨x1, x2, x3⟩ := RowG.len hO.row
   exact ⟨_, _, _, rfl, x3⟩
  have HN := Lib.hid hn
  have hn4 : m ≤ 10000 := by omega
  obtain ⟨ad2, cap2, e2, hc2⟩ := RowS.cells hO.row
  have HC : Hid (∀ k, k < m → ∃ b o, au = some ⟨b, o, none⟩ ∧ w.heap.size + 2 ≤ b ∧ b < w1.heap.size ∧ w1.cell? ⟨b, o + k, none⟩ = some (.string (bs (T.getD k [])))) := by
   cases e2
   show ∀ k, _
   rw [hn]
   intro k hk
   obtain ⟨b, o, rfl, x2, x3⟩ := hc2 k hk
   exact ⟨b, o, rfl, own_block hO2, x2, x3⟩
  have hz1 := zA.out
  have P0 : Hid (QL w w1 (.slice av n cv) (.slice none 0 0) (.slice none 0 0) [] [] w1) :=
   ⟨Keep.refl _ _, A0.out.trans (B1.mono A0.out.size), by rw [B1.block _ (lt_of_block BR0.out)]; exact BR0.out, by rw [B1.block _ (lt_of_block BP0.out)]; exact BP0.out, OwnG.nil _ _ _ _ _ _, OwnG.nil _ _ _ _ _ _, fun g hg => (by cases hg), by have := B1.size; omega, Nat.le_refl _⟩
  clear hO hO2 B1 hn C1 e2 hc2 hlen HS hz1 BR0 BP0 A0 HV
  go_wp2
  go_loopw [7] (fun i wr => ∃ (k : Nat) (os : List (Int × List UInt8)) (ao : Option Addr) (no co : Nat) (ad : Option Addr) (nd cd : Nat), k ≤ m ∧ i = .int .i64 (k : Int) ∧ Hid (R = pk (T.drop k) os) ∧ Hid (os.length = k) ∧ Hid (QL w w1 (.slice av n cv) (.slice ao no co) (.slice ad nd cd) os (os.map oid) wr)) (fun i _ => m - (intOf i).toNat)
  case atStart => exact ⟨0, [], _, _, _, _, _, _, Nat.zero_le _, rfl, by show _ = _; rw [List.drop_zero]; exact HR0.out, rfl, P0.out⟩
  case round =>
   obtain ⟨k, os, ao, no, co, ad, nd, cd, hk, rfl, hE, hK, hP⟩ := hrel
   clear P0 HR0
   by_cases hlt : k < m
   ·have yk : (k : Int) < (m : Int) := by omega
    have y0 : (0 : Int) ≤ (k : Int) := by omega
    have w5 : IntKind.i64.wrap ((k : Int) + 1) = (k : Int) + 1 := IntWalk.i64_in _ (by omega)
    obtain ⟨b, o, rfl, hb0, hb1, hb2⟩ := HC.out k hlt
    have ct : wr.cell? ⟨b, o + k, none⟩ = some (.string (bs (T.getD k []))) := hP.out.kp.cell (a := ⟨b, o + k, none⟩) ⟨hb1, by show b ≠ _; omega⟩ hb2
    have C2 : Hid (∀ W, _) := Lib.hid (CR.out k (by rw [← HN.out]; exact hlt))
    have HD : Hid (T.drop k = T.getD k [] :: T.drop (k + 1)) := by
     show _ = _
     have hk2 : k < T.length := by rw [← HN.out]; exact hlt
     rw [List.drop_eq_getElem_cons hk2, List.getD_eq_getElem?_getD, List.getElem?_eq_getElem hk2]; rfl
    obtain ⟨t, ht⟩ : ∃ t, t = T.getD k [] := ⟨_, rfl⟩
    rw [← ht] at ct C2 HD
    have hE2 : Hid (R = pk (t :: T.drop (k + 1)) os) := by show _ = _; rw [← HD.out]; exact hE.out
    obtain ⟨ts, hts⟩ : ∃ ts, ts = bs t := ⟨_, rfl⟩
    rw [← hts] at ct C2
    clear hb0 hb1 hb2 ht hts HD hE
    cases hf : frameOf t with
    | none =>
     have HF : Hid (R = none) := by show _ = _; rw [hE2.out]; exact pk_bad hf
     rw [hf] at C2
     unfold qrdv at C2
     dsimp only at C2
     clear hf hE2
     go_wp2_with fail
     refine (C2.out _).mono ?_
     rintro e w2 ⟨rfl, B2⟩
     have hA : Below w2.heap.size w2 (w2.alloc (.cells #[.int .i64 0, .string ⟨#[]⟩] 43)) := (Below.refl _ _).alloc (Nat.le_refl _) _
     have P3 := Lib.hid ((hP.out.below B2).below hA)
     clear B2 C2 ct hA hP
     have bP := P3.out.bl
     have bR := P3.out.bR
     have c0 := cell_of_row _ _ 0 _ _ _ bP
     have c1 := cell_of_row _ _ 1 _ _ _ bP
     have c2 := cell_of_row _ _ 2 _ _ _ bP
     have c3 := cell_of_row _ _ 3 _ _ _ bP
     have d0 := cell_of_row _ _ 0 _ _ _ bR
     have d1 := cell_of_row _ _ 1 _ _ _ bR
     have d2 := cell_of_row _ _ 2 _ _ _ bR
     have d3 := cell_of_row _ _ 3 _ _ _ bR
     have f0 := frozen_of_row _ _ 0 _ _ bR
     have f1 := frozen_of_row _ _ 1 _ _ bR
     have f2 := frozen_of_row _ _ 2 _ _ bR
     have f3 := frozen_of_row _ _ 3 _ _ bR
     have HB := Lib.hid bR
     clear bP bR
     go_wp2
     refine bodyPost_ret (v := .tuple #[.agg #[.slice av n cv, .slice none 0 0, .slice ao no co, .slice ad nd cd], .bool false]) (results_cell_tmp10 rfl _ _ w.heap.size _ _ _ _ _ rfl rfl (four_set10 HB.out _ _ _ _) Tryz.underlying32 rfl (by kernel_rfl)) rfl ⟨P3.out.four _ _ _ _, ?_⟩
     exact Or.inr ⟨HF.out, _, _, _, _, _, _, rfl⟩
    | some x =>
     have hOk : objOk x.1 x.2 := (frameOf_some.1 hf).1
     have CI : Hid (∀ W, Calls Tryz.prog 33 #[.agg #[.int .i64 x.1, .string (bs x.2)]] W fun e w' => e = .returned (.agg (arr 32 (bv (oid x)))) ∧ Below W.heap.size W w') := fun W => qidd_any x.1 x.2 W (obj_kind hOk) hOk.1
     have HFx : Hid ((idx (oid x) (os.map oid) 0 ≠ none → R = none) ∧ (idx (oid x) (os.map oid) 0 = none → R = pk (T.drop (k + 1)) (os ++ [x]))) := ⟨fun h => by rw [hE2.out]; exact pk_twice hf h, fun h => by rw [hE2.out]; exact pk_more hf h⟩
     rw [hf] at C2
     unfold qrdv at C2
     dsimp only at C2
     obtain ⟨D, hD⟩ : ∃ D, D = oid x := ⟨_, rfl⟩
     rw [← hD] at CI HFx
     have HDx := Lib.hid hD
     obtain ⟨xk, hxk⟩ : ∃ xk, xk = x.1 := ⟨_, rfl⟩
     obtain ⟨xs, hxs⟩ : ∃ xs, xs = bs x.2 := ⟨_, rfl⟩
     rw [← hxk, ← hxs] at C2 CI
     have HXk := Lib.hid hxk
     have HXs := Lib.hid hxs
     clear hf hE2 hOk hD hxk hxs
     go_wp2_with fail
     refine (C2.out _).mono ?_
     rintro e w2 ⟨rfl, B2⟩
     have P2 := Lib.hid (hP.out.below B2)
     have HVD : Hid (∀ gb, (Value.slice ao no co).ownBlock = some gb → gb < w2.heap.size) := fun gb h => (own_lt P2.out.oo h).2
     clear B2 C2 ct hP
     go_upto_region 11 with fail
     change Code.wp _ _ _ _ (w2.alloc (.cells #[.int .i64 xk, .string xs] 43))
     have hA3 : Below w2.heap.size w2 (w2.alloc (.cells #[.int .i64 xk, .string xs] 43)) := (Below.refl _ _).alloc (Nat.le_refl _) _
     have o3 : (w2.alloc (.cells #[.int .i64 xk, .string xs] 43)).heap[w2.heap.size]? = some (.cells #[.int .i64 xk, .string xs] 43 (0, 0)) := heap_alloc_new _ _
     have P3 := Lib.hid (P2.out.below hA3)
     obtain ⟨oB, hoB⟩ : ∃ oB, oB = w2.heap.size := ⟨_, rfl⟩
     rw [← hoB] at o3 ⊢
     have HVO : Hid (∀ gb, (Value.slice ao no co).ownBlock = some gb → gb < oB) := fun gb h => by have := HVD.out gb h; omega
     have HO1 : Hid (w1.heap.size ≤ oB) := by show _ ≤ _; rw [hoB]; exact P2.out.ge
     generalize w2.alloc (.cells #[.int .i64 xk, .string xs] 43) = w3 at hA3 o3 P3 ⊢
     have O3 := Lib.hid o3
     have q0 := cell_of_row _ _ 0 _ _ _ o3
     have q1 := cell_of_row _ _ 1 _ _ _ o3
     clear hA3 o3 hoB P2 HVD
     refine wp_region_lit ?_
     refine wpList_valS (v := ?_) (by kernel_rfl) ?_ ?_
     rotate_left 1
     ·(go_simp; try with_reducible rfl)
     try simp only [Act.put, tA, tZ, tS]
     refine wpList_callG (by kernel_rfl) fun K hK => ?_
     go_simp
     refine (CI.out _).mono ?_
     rintro e w4 ⟨rfl, B4⟩
     refine hK _ _ ?_
     clear hK K
     try simp only [Act.put, tA, tZ, tS]
     have P4 := Lib.hid (P3.out.below B4)
     have O4 : Hid (w4.heap[oB]? = some (.cells #[.int .i64 xk, .string xs] 43 (0, 0))) := by show _ = _; rw [B4.block _ (lt_of_block O3.out)]; exact O3.out
     clear B4 q0 q1 CI P3 O3
     refine wpList_valG (by kernel_rfl) (ex_allocId rfl) ?_
     try simp only [Act.put, tA, tZ, tS]
     have BZ : Blk (w4.alloc (.cells (arr 32 (bv fun _ => 0)) 37)) w4.heap.size 37 32 (bv fun _ => 0) := Blk.newAt _ (heap_alloc_new _ _) rfl
     have hA5 : Below w4.heap.size w4 (w4.alloc (.cells (arr 32 (bv fun _ => 0)) 37)) := (Below.refl _ _).alloc (Nat.le_refl _) _
     have P5 := Lib.hid (P4.out.below hA5)
     have O5 : Hid ((w4.alloc (.cells (arr 32 (bv fun _ => 0)) 37)).heap[oB]? = some (.cells #[.int .i64 xk, .string xs] 43 (0, 0))) := by show _ = _; rw [hA5.block _ (lt_of_block O4.out)]; exact O4.out
     have HNE : Hid (oB ≠ w4.heap.size) := by show _ ≠ _; have := lt_of_block O4.out; omega
     have HIB : Hid (w4.heap.size ≤ w4.heap.size) := Nat.le_refl _
     have HB0 : Hid (Below w4.heap.size w4 (w4.alloc (.cells (arr 32 (bv fun _ => 0)) 37))) := hA5
     obtain ⟨iB, hiB⟩ : ∃ iB, iB = w4.heap.size := ⟨_, rfl⟩
     rw [← hiB] at BZ HNE HIB HB0 ⊢
     generalize w4.alloc (.cells (arr 32 (bv fun _ => 0)) 37) = W4 at BZ P5 O5 HB0 ⊢
     refine wpList_unitG (by kernel_rfl) (ex_store 37 (.tmp 10) (.tmp 39) rfl iB 0 32 (bv D) rfl rfl (BZ.there 0 32 (by omega)) sz30 (fun _ _ => rfl)) ?_
     try simp only [Act.put, tA, tZ, tS]
     refine wpList_nil ?_
     have B5 := Lib.hid (BZ.over (bv D))
     have KZ := keep_setCells (b := iB) (arr 32 (bv D)).toList 0 W4
     have KB : Below iB w4 (W4.setCells iB 0 (arr 32 (bv D)).toList) := ((Keep.of_below HB0.out (fun b hb _ => hb) : Keep (fun b => b < iB) w4 W4).trans (KZ.mono fun b hb _ => by omega)).below (by rw [hiB]; exact Nat.le_refl _)
     have P6 : Hid (QL w w1 (.slice av n cv) (.slice ao no co) (.slice ad nd cd) os (os.map oid) (W4.setCells iB 0 (arr 32 (bv D)).toList)) := P4.out.below (by rw [← hiB]; exact KB)
     have O6 : Hid ((W4.setCells iB 0 (arr 32 (bv D)).toList).heap[oB]? = some (.cells #[.int .i64 xk, .string xs] 43 (0, 0))) := KZ.at HNE.out O5.out
     have HVI : Hid (∀ gb, (Value.slice ao no co).ownBlock = some gb → gb < iB) := fun gb h => by have := HVO.out gb h; have := lt_of_block O4.out; omega
     have HI1 : Hid (w1.heap.size ≤ iB) := by show _ ≤ _; rw [hiB]; exact P4.out.ge
     generalize W4.setCells iB 0 (arr 32 (bv D)).toList = w5' at B5 P6 O6 ⊢
     clear BZ KZ KB P5 O5 hiB HB0 HIB P4 O4
     have CF := Lib.hid (fun W (h : RowD W (.slice ad nd cd) (os.map oid)) => qfind_any (w := W) D h (by rw [List.length_map]; have := hK.out; omega))
     have b3 := cell_of_row _ _ 3 _ _ _ P6.out.bl
     go_upto_region 12 with fail
     refine wp_region_lit ?_
     iterate 2
      refine wpList_valS (v := ?_) (by kernel_rfl) ?_ ?_
      rotate_left 1
      ·(go_simp; try with_reducible rfl)
      try simp only [Act.put, tA, tZ, tS]
     refine wpList_valG (by kernel_rfl) (ex_load 37 (.tmp 10) rfl iB 0 32 (bv D) rfl ty30 rfl sz30 B5.out.at0) ?_
     try simp only [Act.put, tA, tZ, tS]
     refine wpList_callG (by kernel_rfl) fun K hK => ?_
     go_simp
     refine (CF.out _ P6.out.od.row).mono ?_
     rintro e w6 ⟨rfl, B6⟩
     refine hK _ _ ?_
     clear hK K
     try simp only [Act.put, tA, tZ, tS]
     have P7 := Lib.hid (P6.out.below B6)
     have O7 : Hid (w6.heap[oB]? = some (.cells #[.int .i64 xk, .string xs] 43 (0, 0))) := by show _ = _; rw [B6.block _ (lt_of_block O6.out)]; exact O6.out
     have B7 := Lib.hid (B5.out.below B6 B5.out.lt)
     clear B6 P6 O6 B5 CF b3
     have hfn := fnd_neg (f := D) (L := os.map oid)
     generalize fnd D (os.map oid) = fz at hfn ⊢
     refine wpList_valS (v := ?_) (by kernel_rfl) ?_ ?_
     rotate_left 1
     ·(go_simp; try with_reducible rfl)
     try simp only [Act.put, tA, tZ, tS]
     refine wpList_nil ?_
     by_cases hx : idx D (os.map oid) 0 = none
     ·have fz0 : fz < 0 := hfn.2 hx
      have HRn := Lib.hid (HFx.out.2 hx)
      clear hfn HFx
      obtain ⟨b1, c1, W7, hr, P9, q9, f9, K9⟩ := P7.out.obj x (by have := hK.out; omega)
      rw [← HXk.out, ← HXs.out] at hr
      have HP9 := Lib.hid P9
      have B9 : Hid (Blk (W7.setCell ⟨w.heap.size + 1, 2, none⟩ (.slice (some ⟨b1, 0, none⟩) (os.length + 1) c1)) iB 37 32 (bv D)) := by
       have n2 : (Value.slice ao no co).ownBlock ≠ some iB := fun h => by have := HVI.out _ h; omega
       have n3 : iB ≠ w.heap.size + 1 := by have := HI1.out; have := P9.hz; omega
       show Blk _ _ _ _ _
       exact ((Keep.refl (fun j => j ≠ w.heap.size + 1) W7).setCell (fun h => h rfl) _).blk n3 (K9.blk n2 B7.out)
      have g2 := cell_of_row _ _ 2 _ _ _ P7.out.bl
      have q0 := cell_of_row _ _ 0 _ _ _ O7.out
      have q1 := cell_of_row _ _ 1 _ _ _ O7.out
      clear P9 K9
      go_upto_region 14 with fail
      go_upto_region 15 with (at_builtin; refine wpList_append_run rfl (.tmp 47) (.tmp 49) 29 29 rfl _ _ _ _ rfl rfl hr ?_)
      change Code.wp _ _ _ _ (W7.setCell ⟨w.heap.size + 1, 2, none⟩ (.slice (some ⟨b1, 0, none⟩) (os.length + 1) c1))
      clear hr q9 f9 g2 q0 q1 P7 O7 B7
      generalize W7.setCell ⟨w.heap.size + 1, 2, none⟩ (.slice (some ⟨b1, 0, none⟩) (os.length + 1) c1) = w8 at HP9 B9 ⊢
      obtain ⟨b2, c2, W9, hr2, P11, q11, f11⟩ := HP9.out.idd D (by have := hK.out; rw [List.length_map]; omega)
      rw [List.length_map] at hr2 P11
      have HP11 := Lib.hid P11
      have g3 := cell_of_row _ _ 3 _ _ _ HP9.out.bl
      clear P11
      refine wp_region_lit ?_
      iterate 2
       refine wpList_valS (v := ?_) (by kernel_rfl) ?_ ?_
       rotate_left 1
       ·(go_simp; try with_reducible rfl)
       try simp only [Act.put, tA, tZ, tS]
      refine wpList_valG (by kernel_rfl) (ex_load 37 (.tmp 10) rfl iB 0 32 (bv D) rfl ty30 rfl sz30 B9.out.at0) ?_
      try simp only [Act.put, tA, tZ, tS]
      refine wpList_valG (by kernel_rfl) (ex_bslice 30 37 (.tmp 54) rfl 32 (bv D) rfl tIds zId (by decide) (by decide)) ?_
      try simp only [Act.put, tA, tZ, tS]
      refine wpList_append_run rfl (.tmp 53) (.tmp 55) 30 30 rfl _ _ _ _ rfl rfl hr2 ?_
      try simp only [Act.put, tA, tZ, tS]
      refine wpList_valS (v := ?_) (by kernel_rfl) ?_ ?_
      rotate_left 1
      ·(go_simp; try with_reducible rfl)
      try simp only [Act.put, tA, tZ, tS]
      refine wpList_callG (by kernel_rfl) fun K hK => ?_
      go_simp
      refine hK _ _ ?_
      clear hK K
      try simp only [Act.put, tA, tZ, tS]
      refine wpList_nil ?_
      clear hr2 q11 f11 g3 HP9 B9
      generalize W9.setCell ⟨w.heap.size + 1, 3, none⟩ (.slice (some ⟨b2, 0, none⟩) (os.length + 1) c2) = w10 at HP11 ⊢
      have HP13 : Hid (QL w w1 (.slice av n cv) (.slice (some ⟨b1, 0, none⟩) (os.length + 1) c1) (.slice (some ⟨b2, 0, none⟩) (os.length + 1) c2) (os ++ [x]) ((os ++ [x]).map oid) w10) := by
       show QL _ _ _ _ _ _ _ _
       rw [List.map_append, List.map_singleton, ← HDx.out]
       exact HP11.out
      have HK1 : Hid ((os ++ [x]).length = k + 1) := by show _ = _; rw [List.length_append, hK.out]; rfl
      clear HP11
      go_wp2
      go_roundw
      case rel => exact ⟨k + 1, os ++ [x], _, _, _, _, _, _, by omega, by go_num, HRn, HK1, HP13⟩
      case measure => simp [intOf]; omega
     ·have fz0 : 0 ≤ fz := by
       by_cases c : 0 ≤ fz
       ·exact c
       ·exact absurd (hfn.1 (by omega)) hx
      have HF := Lib.hid (HFx.out.1 hx)
      clear hfn HFx
      have bP := P7.out.bl
      have bR := P7.out.bR
      have c0 := cell_of_row _ _ 0 _ _ _ bP
      have c1 := cell_of_row _ _ 1 _ _ _ bP
      have c2 := cell_of_row _ _ 2 _ _ _ bP
      have c3 := cell_of_row _ _ 3 _ _ _ bP
      have d0 := cell_of_row _ _ 0 _ _ _ bR
      have d1 := cell_of_row _ _ 1 _ _ _ bR
      have d2 := cell_of_row _ _ 2 _ _ _ bR
      have d3 := cell_of_row _ _ 3 _ _ _ bR
      have f0 := frozen_of_row _ _ 0 _ _ bR
      have f1 := frozen_of_row _ _ 1 _ _ bR
      have f2 := frozen_of_row _ _ 2 _ _ bR
      have f3 := frozen_of_row _ _ 3 _ _ bR
      have HB := Lib.hid bR
      clear bP bR
      go_wp2
      refine bodyPost_ret (v := .tuple #[.agg #[.slice av n cv, .slice none 0 0, .slice ao no co, .slice ad nd cd], .bool false]) (results_cell_tmp10 rfl _ _ w.heap.size _ _ _ _ _ rfl rfl (four_set10 HB.out _ _ _ _) Tryz.underlying32 rfl (by kernel_rfl)) rfl ⟨P7.out.four _ _ _ _, ?_⟩
      exact Or.inr ⟨HF.out, _, _, _, _, _, _, rfl⟩
   ·have e : k = m := by omega
    subst e
    have HF : Hid (R = some os) := by show _ = _; rw [hE.out, List.drop_of_length_le (by rw [← HN.out]; exact Nat.le_refl _)]; rfl
    clear hlt hE
    have bP := hP.out.bl
    have bR := hP.out.bR
    have c0 := cell_of_row _ _ 0 _ _ _ bP
    have c1 := cell_of_row _ _ 1 _ _ _ bP
    have c2 := cell_of_row _ _ 2 _ _ _ bP
    have c3 := cell_of_row _ _ 3 _ _ _ bP
    have d0 := cell_of_row _ _ 0 _ _ _ bR
    have d1 := cell_of_row _ _ 1 _ _ _ bR
    have d2 := cell_of_row _ _ 2 _ _ _ bR
    have d3 := cell_of_row _ _ 3 _ _ _ bR
    have f0 := frozen_of_row _ _ 0 _ _ bR
    have f1 := frozen_of_row _ _ 1 _ _ bR
    have f2 := frozen_of_row _ _ 2 _ _ bR
    have f3 := frozen_of_row _ _ 3 _ _ bR
    have HB := Lib.hid bR
    clear bP bR
    go_wp2
    refine bodyPost_ret (v := .tuple #[.agg #[.slice av n cv, .slice none 0 0, .slice ao no co, .slice ad nd cd], .bool true]) (results_cell_tmp10 rfl _ _ w.heap.size _ _ _ _ _ rfl rfl (four_set10 HB.out _ _ _ _) Tryz.underlying32 rfl (by kernel_rfl)) rfl ⟨hP.out.four _ _ _ _, ?_⟩
    exact Or.inl ⟨os, HF.out, _, _, rfl, OwnG.mono (hP.out.oo.four hP.out.hz _ _ _ _) (by have := hP.out.hz; omega), OwnG.mono (hP.out.od.four hP.out.hz _ _ _ _) (by have := hP.out.hz; omega)⟩
 ·rw [if_neg h0] at hR
  have HF := Lib.hid hR
  clear hR HS hlen
  go_enter Tryz.func10, Tryz.ntmps10
  go_wp2_with fail
  refine (C1.out _ HV.out).mono ?_
  rintro e w1 ⟨u, rfl, hO, B1⟩
  have hz1 := zA.out
  have P0 : Hid (QL w w1 (.slice av n cv) (.slice none 0 0) (.slice none 0 0) [] [] w1) :=
   ⟨Keep.refl _ _, A0.out.trans (B1.mono A0.out.size), by rw [B1.block _ (lt_of_block BR0.out)]; exact BR0.out, by rw [B1.block _ (lt_of_block BP0.out)]; exact BP0.out, OwnG.nil _ _ _ _ _ _, OwnG.nil _ _ _ _ _ _, fun g hg => (by cases hg), by have := B1.size; omega, Nat.le_refl _⟩
  obtain ⟨ao, no, co, hao⟩ : ∃ (ao : Option Addr) (no co : Nat), (Value.slice none 0 0) = .slice ao no co := ⟨_, _, _, rfl⟩
  obtain ⟨ad, nd, cd, had⟩ : ∃ (ad : Option Addr) (nd cd : Nat), (Value.slice none 0 0) = .slice ad nd cd := ⟨_, _, _, rfl⟩
  have P1 : Hid (QL w w1 (.slice av n cv) (.slice ao no co) (.slice ad nd cd) [] [] w1) := by rw [← hao, ← had]; exact P0.out
  clear hO C1 hz1 BR0 BP0 A0 HV B1 P0 hao had
  have bP := P1.out.bl
  have bR := P1.out.bR
  have c0 := cell_of_row _ _ 0 _ _ _ bP
  have c1 := cell_of_row _ _ 1 _ _ _ bP
  have c2 := cell_of_row _ _ 2 _ _ _ bP
  have c3 := cell_of_row _ _ 3 _ _ _ bP
  have d0 := cell_of_row _ _ 0 _ _ _ bR
  have d1 := cell_of_row _ _ 1 _ _ _ bR
  have d2 := cell_of_row _ _ 2 _ _ _ bR
  have d3 := cell_of_row _ _ 3 _ _ _ bR
  have f0 := frozen_of_row _ _ 0 _ _ bR
  have f1 := frozen_of_row _ _ 1 _ _ bR
  have f2 := frozen_of_row _ _ 2 _ _ bR
  have f3 := frozen_of_row _ _ 3 _ _ bR
  have HB := Lib.hid bR
  clear bP bR
  go_wp2
  refine bodyPost_ret (v := .tuple #[.agg #[.slice av n cv, .slice none 0 0, .slice ao no co, .slice ad nd cd], .bool false]) (results_cell_tmp10 rfl _ _ w.heap.size _ _ _ _ _ rfl rfl (four_set10 HB.out _ _ _ _) Tryz.underlying32 rfl (by kernel_rfl)) rfl ⟨P1.out.four _ _ _ _, ?_⟩
  exact Or.inr ⟨HF.out, _, _, _, _, _, _, rfl⟩
end Go.Proofs.YtnmjcpoobabjgaaGreatDoor
