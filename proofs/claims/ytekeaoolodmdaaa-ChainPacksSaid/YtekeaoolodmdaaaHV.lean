import Derived.Test.YtekeaoolodmdaaaHU
import Derived.Test.YtekeaoolodmdaaaEL
import Derived.Test.YtekeaoolodmdaaaEB
import Derived.Deep.RegionHeld3
/- The reference's bytes of a delta. -/
namespace Go.Proofs.Ytekeaoolodmdaaa
set_option maxRecDepth 100000
open Go.RowKit
theorem dg_le6 {n : Nat} (h : n ≤ 1099511627775) : (dg n).length ≤ 6 := dg_le n 0 (by omega) (by omega)
set_option maxHeartbeats 4000000 in
theorem qwrite_any (b many : Nat) (l : List Pz) (v : Value) (w : World) (hb : b ≤ 4099) (hm : many ≤ 4099) (hR : RowZ w v l) (hg : ∀ x ∈ l, good b x) (hsm : ∀ x ∈ l, small x) (hl : l.length ≤ 4099) :
    Calls Try.prog 28 #[.int .i64 (b : Int), .int .i64 (many : Int), v] w fun e w' => e = .returned (.string (bs (dg b ++ dg many ++ wzs l))) ∧ Below w.heap.size w w' := by
  have CN : Hid (∀ (n : Nat) W, n ≤ 1099511627775 → _) := Lib.hid (fun (n : Nat) W h => ref_nat n h W)
  have HB := Lib.hid hb
  have HG := Lib.hid (fun k (hk : k < l.length) => And.intro (hg _ (getD_mem l zz k hk)) (hsm _ (getD_mem l zz k hk)))
  have HLEN : Hid (∀ k, k ≤ l.length → (dg b ++ dg many ++ wzs (l.take k)).length ≤ 12 + 4099 * 4105) := fun k hk => by
    have h1 := wzs_len (l := l.take k) hb (fun x hx => hg x (List.mem_of_mem_take hx))
    have h2 : (l.take k).length ≤ 4099 := by rw [List.length_take]; omega
    have h3 := dg_le6 (n := b) (by omega)
    have h4 := dg_le6 (n := many) (by omega)
    have h5 : (l.take k).length * 4105 ≤ 4099 * 4105 := Nat.mul_le_mul_right _ h2
    rw [List.length_append, List.length_append]
    omega
  obtain ⟨ad, cap, rfl, hc⟩ := hR.cells
  have HC := Lib.hid hc
  obtain ⟨n, hn⟩ : ∃ n, n = l.length := ⟨_, rfl⟩
  rw [← hn]
  have HN := Lib.hid hn
  obtain ⟨R, hRR⟩ : ∃ R, R = bs (dg b ++ dg many ++ wzs l) := ⟨_, rfl⟩
  rw [← hRR]
  have HR := Lib.hid hRR
  have n4 : n ≤ 4099 := by omega
  have C1 := Lib.hid (fun W => CN.out b W (by omega))
  have C2 := Lib.hid (fun W => CN.out many W (by omega))
  have hap0 : bs (dg b) ++ bs (dg many) = bs (dg b ++ dg many ++ wzs (l.take 0)) := by rw [bs_append]; simp [wzs]
  have hsz0 : ¬ 9223372036854775807 < (bs (dg b)).size + (bs (dg many)).size := by
    rw [bs_size, bs_size]
    have h3 := dg_le6 (n := b) (by omega)
    have h4 := dg_le6 (n := many) (by omega)
    omega
  obtain ⟨S, hS⟩ : ∃ S : Nat → ByteArray, S = fun k => bs (dg b ++ dg many ++ wzs (l.take k)) := ⟨_, rfl⟩
  have hS0 : bs (dg b ++ dg many ++ wzs (l.take 0)) = S 0 := by rw [hS]
  rw [hS0] at hap0
  have HSS := Lib.hid hS
  generalize bs (dg b) = q1 at *
  generalize bs (dg many) = q2 at *
  clear hS hS0 hRR hn hc hR hg hsm hl hb hm
  go_enter Try.func28, Try.ntmps28
  go_wp2_with fail
  refine (C1.out _).mono ?_
  rintro e w1 ⟨rfl, B1⟩
  have L1 := Lib.hid B1
  clear B1 C1
  go_wp2_with fail
  refine (C2.out _).mono ?_
  rintro e w2 ⟨rfl, B2⟩
  have L2 := Lib.hid (L1.out.trans (B2.mono L1.out.size))
  clear B2 C2 L1
  go_wp2
  go_loopw [7, 8] (fun s i wr => ∃ k : Nat, k ≤ n ∧ i = .int .i64 (k : Int) ∧ s = .string (S k) ∧ Hid (Below w.heap.size w wr)) (fun _ i _ => n - (intOf i).toNat)
  case atStart => exact ⟨0, Nat.zero_le _, rfl, rfl, L2⟩
  case round =>
    obtain ⟨k, hk, rfl, rfl, hL⟩ := hrel
    clear hap0 hsz0 L2
    by_cases hlt : k < n
    · have hkl : k < l.length := by rw [← HN.out]; exact hlt
      obtain ⟨pb, po, rfl, hpb, c0, c1⟩ := HC.out k hkl
      obtain ⟨hgd, hsml⟩ := HG.out k hkl
      rw [← hL.out.cell (p := ⟨pb, po + k * 2, none⟩) hpb] at c0
      rw [← hL.out.cell (p := ⟨pb, po + k * 2 + 1, none⟩) hpb] at c1
      obtain ⟨x, hx⟩ : ∃ x, x = l.getD k zz := ⟨_, rfl⟩
      rw [← hx] at c0 c1 hgd hsml
      have zk : (0 : Int) ≤ (k : Int) := by omega
      have yk : (k : Int) < (n : Int) := by omega
      have w6 : IntKind.i64.wrap ((k : Int) + 1) = (k : Int) + 1 := IntWalk.i64_in _ (by omega)
      have hSk : S (k + 1) = S k ++ bs (wz x) := by
        rw [HSS.out]
        dsimp only
        rw [take_next l zz k hkl, wzs_snoc, ← hx, bs_append, List.append_assoc, List.append_assoc, List.append_assoc]
      have hLk := HLEN.out (k + 1) (by omega)
      have hszk : (S (k + 1)).size ≤ 12 + 4099 * 4105 := by rw [HSS.out, bs_size]; exact hLk
      have hszx : (S k).size + (bs (wz x)).size ≤ 12 + 4099 * 4105 := by
        have := congrArg ByteArray.size hSk
        rw [ByteArray.size_append] at this
        omega
      by_cases cr : x.raw
      · have CC : Hid (∀ W, _) := Lib.hid (fun W => qcopy_no b x W HB.out hsml (fun h => h.1 cr))
        unfold pv at CC
        have hgl : 1 ≤ x.t.length ∧ x.t.length ≤ 4099 := by unfold good at hgd; rw [if_pos cr] at hgd; exact hgd
        have hwz : wz x = dg (2 * x.t.length) ++ x.t := by unfold wz; rw [if_pos cr]
        have CQ := Lib.hid (fun W => CN.out (2 * x.t.length) W (by omega))
        rw [hwz, ← bs_append] at hSk hszx
        rw [ByteArray.size_append] at hszx
        have zt := bs_size x.t
        have w7 : IntKind.i64.wrap (2 * ((bs x.t).size : Int)) = ((2 * x.t.length : Nat) : Int) := by rw [IntWalk.i64_in _ (by omega)]; omega
        obtain ⟨m2, hm2⟩ : ∃ m2, m2 = 2 * x.t.length := ⟨_, rfl⟩
        rw [← hm2] at CQ w7 hSk hszx
        have hs1 : ¬ 9223372036854775807 < (S k).size + (bs (dg m2)).size := by omega
        have hs2 : ¬ 9223372036854775807 < (S k ++ bs (dg m2)).size + (bs x.t).size := by rw [ByteArray.size_append]; omega
        have hSk2 : S k ++ bs (dg m2) ++ bs x.t = S (k + 1) := by rw [hSk, ByteArray.append_assoc]
        generalize cpv x = cv at *
        generalize bs x.t = st at *
        generalize bs (dg m2) = sq at *
        obtain ⟨s0, hs0⟩ : ∃ s0, s0 = S k := ⟨_, rfl⟩
        rw [← hs0] at hs1 hs2 hSk2 ⊢
        obtain ⟨s1, hs1'⟩ : ∃ s1, s1 = s0 ++ sq := ⟨_, rfl⟩
        rw [← hs1'] at hs2 hSk2
        have hs1'' := hs1'.symm
        obtain ⟨s2, hs2'⟩ : ∃ s2, s2 = S (k + 1) := ⟨_, rfl⟩
        rw [← hs2'] at hSk2
        have HS2 := Lib.hid hs2'
        clear hs1' hs2' hs0 hSk hszx hszk hLk hgd hsml hx hwz hgl hm2 zt cr
        go_wp2_with fail
        refine (CC.out _).mono ?_
        rintro e w3 ⟨⟨a1, a2, rfl⟩, B3⟩
        have L3 := Lib.hid (hL.out.trans (B3.mono hL.out.size))
        have hpl : pb < wr.heap.size := Nat.lt_of_lt_of_le hpb hL.out.size
        have c1' : Hid (∀ W, Below w3.heap.size w3 W → W.cell? ⟨pb, po + k * 2 + 1, none⟩ = some (.string st)) := fun W hW => by
          rw [hW.cell (p := ⟨pb, po + k * 2 + 1, none⟩) (Nat.lt_of_lt_of_le hpl B3.size), B3.cell (p := ⟨pb, po + k * 2 + 1, none⟩) hpl]; exact c1
        have SB : Hid (∀ W, Below w3.heap.size w3 W → W.cell? ⟨pb, po + k * 2 + 1, none⟩ = some (.string st) ∧ Below w3.heap.size w3 W) := fun W hW => ⟨c1'.out W hW, hW⟩
        clear B3 CC hL c0 c1 c1'
        go_wp2
        have b0 : Below w3.heap.size w3 w3.drew := (Below.refl _ _).drew
        refine wp_region_noPanic ?_
        refine wp_region_held_drew (S := (fun W => W.cell? ⟨pb, po + k * 2 + 1, none⟩ = some (.string st) ∧ Below w3.heap.size w3 W)) (by kernel_rfl) (SB.out _ b0) (fun hHeld => ?_)
        refine wpAnyH_take (i := 0) (oi := { dst := some 43, op := Op.move (Operand.tmp 7), type := 9, pos := "ref.go:115", after := #[], guard := none }) (v := ?_) rfl (by kernel_rfl) (by kernel_rfl) (by kernel_rfl) (fun _ _ _ h => h) (Or.inl ⟨by kernel_rfl, ?_⟩) (by assumption) ?_
        rotate_left 1
        · (intro wS hSw; (try dsimp only at hSw); go_simp; try with_reducible rfl)
        try simp only [Act.put, List.setIfInBounds_toArray, List.set_cons_zero, List.set_cons_succ]
        refine wpAnyH_take (i := 1) (oi := { dst := some 44, op := Op.move (Operand.tmp 2), type := 59, pos := "ref.go:115", after := #[], guard := none }) (v := ?_) rfl (by kernel_rfl) (by kernel_rfl) (by kernel_rfl) (fun _ _ _ h => h) (Or.inl ⟨by kernel_rfl, ?_⟩) (by assumption) ?_
        rotate_left 1
        · (intro wS hSw; (try dsimp only at hSw); go_simp; try with_reducible rfl)
        try simp only [Act.put, List.setIfInBounds_toArray, List.set_cons_zero, List.set_cons_succ]
        refine wpAnyH_take (i := 2) (oi := { dst := some 45, op := Op.move (Operand.tmp 8), type := 3, pos := "ref.go:115", after := #[], guard := none }) (v := ?_) rfl (by kernel_rfl) (by kernel_rfl) (by kernel_rfl) (fun _ _ _ h => h) (Or.inl ⟨by kernel_rfl, ?_⟩) (by assumption) ?_
        rotate_left 1
        · (intro wS hSw; (try dsimp only at hSw); go_simp; try with_reducible rfl)
        try simp only [Act.put, List.setIfInBounds_toArray, List.set_cons_zero, List.set_cons_succ]
        refine wpAnyH_take (i := 3) (oi := { dst := some 46, op := Op.indexAddr 59 (Operand.tmp 44) (Operand.tmp 45), type := 0, pos := "ref.go:115", after := #[{ on := 1, ground := Ground.data }, { on := 2, ground := Ground.data }], guard := none }) (v := ?_) rfl (by kernel_rfl) (by kernel_rfl) (by kernel_rfl) (fun _ _ _ h => h) (Or.inl ⟨by kernel_rfl, ?_⟩) (by assumption) ?_
        rotate_left 1
        · (intro wS hSw; (try dsimp only at hSw); go_simp; try with_reducible rfl)
        try simp only [Act.put, List.setIfInBounds_toArray, List.set_cons_zero, List.set_cons_succ]
        refine wpAnyH_take (i := 4) (oi := { dst := some 47, op := Op.fieldAddr 76 (Operand.tmp 46) 1, type := 0, pos := "ref.go:115", after := #[{ on := 3, ground := Ground.data }], guard := none }) (v := ?_) rfl (by kernel_rfl) (by kernel_rfl) (by kernel_rfl) (fun _ _ _ h => h) (Or.inl ⟨by kernel_rfl, ?_⟩) (by assumption) ?_
        rotate_left 1
        · (intro wS hSw; (try dsimp only at hSw); go_simp; try with_reducible rfl)
        try simp only [Act.put, List.setIfInBounds_toArray, List.set_cons_zero, List.set_cons_succ]
        refine wpAnyH_take (i := 5) (oi := { dst := some 48, op := Op.load 9 (Operand.tmp 47), type := 9, pos := "ref.go:115", after := #[{ on := 4, ground := Ground.data }], guard := none }) (v := ?_) rfl (by kernel_rfl) (by kernel_rfl) (by kernel_rfl) (fun _ _ _ h => h) (Or.inl ⟨by kernel_rfl, ?_⟩) (by assumption) ?_
        rotate_left 1
        · (intro wS hSw; (try dsimp only at hSw); go_simp; try with_reducible rfl)
        try simp only [Act.put, List.setIfInBounds_toArray, List.set_cons_zero, List.set_cons_succ]
        refine wpAnyH_take (i := 6) (oi := { dst := some 49, op := Op.call { callee := Callee.builtin Builtin.len, args := #[Operand.tmp 48], argTypes := #[9] }, type := 3, pos := "ref.go:115", after := #[{ on := 5, ground := Ground.data }], guard := none }) (v := ?_) rfl (by kernel_rfl) (by kernel_rfl) (by kernel_rfl) (fun _ _ _ h => h) (Or.inl ⟨by kernel_rfl, ?_⟩) (by assumption) ?_
        rotate_left 1
        · (intro wS hSw; (try dsimp only at hSw); go_simp; try with_reducible rfl)
        try simp only [Act.put, List.setIfInBounds_toArray, List.set_cons_zero, List.set_cons_succ]
        refine wpAnyH_take (i := 7) (oi := { dst := some 50, op := Op.binOp BinOp.mul 3 (Operand.const (Value.int IntKind.i64 2)) (Operand.tmp 49) 3, type := 3, pos := "ref.go:115", after := #[{ on := 6, ground := Ground.data }], guard := none }) (v := ?_) rfl (by kernel_rfl) (by kernel_rfl) (by kernel_rfl) (fun _ _ _ h => h) (Or.inl ⟨by kernel_rfl, ?_⟩) (by assumption) ?_
        rotate_left 1
        · (intro wS hSw; (try dsimp only at hSw); go_simp; try with_reducible rfl)
        try simp only [Act.put, List.setIfInBounds_toArray, List.set_cons_zero, List.set_cons_succ]
        refine wpAnyH_take (i := 10) (oi := { dst := some 53, op := Op.move (Operand.tmp 2), type := 59, pos := "ref.go:115", after := #[], guard := none }) (v := ?_) rfl (by kernel_rfl) (by kernel_rfl) (by kernel_rfl) (fun _ _ _ h => h) (Or.inl ⟨by kernel_rfl, ?_⟩) (by assumption) ?_
        rotate_left 1
        · (intro wS hSw; (try dsimp only at hSw); go_simp; try with_reducible rfl)
        try simp only [Act.put, List.setIfInBounds_toArray, List.set_cons_zero, List.set_cons_succ]
        refine wpAnyH_take (i := 11) (oi := { dst := some 54, op := Op.move (Operand.tmp 8), type := 3, pos := "ref.go:115", after := #[], guard := none }) (v := ?_) rfl (by kernel_rfl) (by kernel_rfl) (by kernel_rfl) (fun _ _ _ h => h) (Or.inl ⟨by kernel_rfl, ?_⟩) (by assumption) ?_
        rotate_left 1
        · (intro wS hSw; (try dsimp only at hSw); go_simp; try with_reducible rfl)
        try simp only [Act.put, List.setIfInBounds_toArray, List.set_cons_zero, List.set_cons_succ]
        refine wpAnyH_take (i := 12) (oi := { dst := some 55, op := Op.indexAddr 59 (Operand.tmp 53) (Operand.tmp 54), type := 0, pos := "ref.go:115", after := #[{ on := 10, ground := Ground.data }, { on := 11, ground := Ground.data }], guard := none }) (v := ?_) rfl (by kernel_rfl) (by kernel_rfl) (by kernel_rfl) (fun _ _ _ h => h) (Or.inl ⟨by kernel_rfl, ?_⟩) (by assumption) ?_
        rotate_left 1
        · (intro wS hSw; (try dsimp only at hSw); go_simp; try with_reducible rfl)
        try simp only [Act.put, List.setIfInBounds_toArray, List.set_cons_zero, List.set_cons_succ]
        refine wpAnyH_take (i := 13) (oi := { dst := some 56, op := Op.fieldAddr 76 (Operand.tmp 55) 1, type := 0, pos := "ref.go:115", after := #[{ on := 12, ground := Ground.data }], guard := none }) (v := ?_) rfl (by kernel_rfl) (by kernel_rfl) (by kernel_rfl) (fun _ _ _ h => h) (Or.inl ⟨by kernel_rfl, ?_⟩) (by assumption) ?_
        rotate_left 1
        · (intro wS hSw; (try dsimp only at hSw); go_simp; try with_reducible rfl)
        try simp only [Act.put, List.setIfInBounds_toArray, List.set_cons_zero, List.set_cons_succ]
        refine wpAnyH_take (i := 14) (oi := { dst := some 57, op := Op.load 9 (Operand.tmp 56), type := 9, pos := "ref.go:115", after := #[{ on := 13, ground := Ground.data }], guard := none }) (v := ?_) rfl (by kernel_rfl) (by kernel_rfl) (by kernel_rfl) (fun _ _ _ h => h) (Or.inl ⟨by kernel_rfl, ?_⟩) (by assumption) ?_
        rotate_left 1
        · (intro wS hSw; (try dsimp only at hSw); go_simp; try with_reducible rfl)
        try simp only [Act.put, List.setIfInBounds_toArray, List.set_cons_zero, List.set_cons_succ]
        refine wpAnyH_ready (rs := [8]) (by kernel_rfl) (by simp) ?_
        refine AllReadyH.cons (o := { dst := some 51, op := Op.call { callee := Callee.value (Operand.func 38), args := #[Operand.tmp 50], argTypes := #[3] }, type := 9, pos := "ref.go:115", after := #[{ on := 7, ground := Ground.data }], guard := none }) rfl (fun K hK => ?_) AllReadyH.nil
        go_simp
        refine (CQ.out _).mono ?_
        rintro e w4 ⟨rfl, B4⟩
        have Sa8 := SB.out _ (b0.trans B4)
        refine hK.out _ _ Sa8 (fun hHeld8 => ?_)
        clear hK K
        try simp only [Act.put, List.setIfInBounds_toArray, List.set_cons_zero, List.set_cons_succ]
        refine wpAnyH_take (i := 9) (oi := { dst := some 52, op := Op.binOp BinOp.add 9 (Operand.tmp 43) (Operand.tmp 51) 9, type := 9, pos := "ref.go:115", after := #[{ on := 0, ground := Ground.data }, { on := 8, ground := Ground.data }], guard := none }) (v := ?_) rfl (by kernel_rfl) (by kernel_rfl) (by kernel_rfl) (fun _ _ _ h => h) (Or.inl ⟨by kernel_rfl, ?_⟩) (by assumption) ?_
        rotate_left 1
        · (intro wS hSw; (try dsimp only at hSw); go_simp; try with_reducible rfl)
        try simp only [Act.put, List.setIfInBounds_toArray, List.set_cons_zero, List.set_cons_succ]
        refine wpAnyH_take (i := 15) (oi := { dst := some 58, op := Op.binOp BinOp.add 9 (Operand.tmp 52) (Operand.tmp 57) 9, type := 9, pos := "ref.go:115", after := #[{ on := 9, ground := Ground.data }, { on := 14, ground := Ground.data }], guard := none }) (v := ?_) rfl (by kernel_rfl) (by kernel_rfl) (by kernel_rfl) (fun _ _ _ h => h) (Or.inl ⟨by kernel_rfl, ?_⟩) (by assumption) ?_
        rotate_left 1
        · (intro wS hSw; (try dsimp only at hSw); go_simp; try with_reducible rfl)
        try simp only [Act.put, List.setIfInBounds_toArray, List.set_cons_zero, List.set_cons_succ]
        refine wpAnyH_take (i := 16) (oi := { dst := some 7, op := Op.assign (Operand.tmp 58), type := 9, pos := "ref.go:115", after := #[{ on := 15, ground := Ground.data }, { on := 8, ground := Ground.chain }, { on := 0, ground := Ground.phase }, { on := 1, ground := Ground.phase }, { on := 2, ground := Ground.phase }, { on := 3, ground := Ground.phase }, { on := 4, ground := Ground.phase }, { on := 5, ground := Ground.phase }, { on := 6, ground := Ground.phase }, { on := 7, ground := Ground.phase }, { on := 8, ground := Ground.phase }, { on := 9, ground := Ground.phase }, { on := 10, ground := Ground.phase }, { on := 11, ground := Ground.phase }, { on := 12, ground := Ground.phase }, { on := 13, ground := Ground.phase }, { on := 14, ground := Ground.phase }, { on := 15, ground := Ground.phase }], guard := none }) (v := ?_) rfl (by kernel_rfl) (by kernel_rfl) (by kernel_rfl) (fun _ _ _ h => h) (Or.inl ⟨by kernel_rfl, ?_⟩) (by assumption) ?_
        rotate_left 1
        · (intro wS hSw; (try dsimp only at hSw); go_simp; try with_reducible rfl)
        try simp only [Act.put, List.setIfInBounds_toArray, List.set_cons_zero, List.set_cons_succ]
        refine wpAnyH_done (by kernel_rfl) ?_ _
        refine NoPanic.normal ?_
        have L4 := Lib.hid (L3.out.trans (Sa8.2.mono L3.out.size))
        clear Sa8 B4 SB b0 CQ hHeld hHeld8 L3
        go_wp2
        go_roundw
        case rel => exact ⟨k + 1, by omega, by go_num, by rw [HS2.out], L4.out⟩
        case measure => simp [intOf]; omega
      · have CC : Hid (∀ W, _) := Lib.hid (fun W => qcopy_yes b x W HB.out hsml cr hgd)
        unfold pv at CC
        have hwz : wz x = dg (2 * x.n + 1) ++ dg x.p := by unfold wz; rw [if_neg cr]
        have hgl : 1 ≤ x.n ∧ x.n ≤ 4099 ∧ x.p ≤ 4099 := by have h2 := HB.out; unfold good at hgd; rw [if_neg cr] at hgd; omega
        have CQ := Lib.hid (fun W => CN.out (2 * x.n + 1) W (by omega))
        have CP := Lib.hid (fun W => CN.out x.p W (by omega))
        rw [hwz, ← bs_append] at hSk hszx
        rw [ByteArray.size_append] at hszx
        have w7 : IntKind.i64.wrap (2 * (x.n : Int)) = 2 * (x.n : Int) := IntWalk.i64_in _ (by omega)
        have w8 : IntKind.i64.wrap (2 * (x.n : Int) + 1) = ((2 * x.n + 1 : Nat) : Int) := by rw [IntWalk.i64_in _ (by omega)]; omega
        obtain ⟨m2, hm2⟩ : ∃ m2, m2 = 2 * x.n + 1 := ⟨_, rfl⟩
        rw [← hm2] at CQ w8 hSk hszx
        have hs1 : ¬ 9223372036854775807 < (S k).size + (bs (dg m2)).size := by omega
        have hs2 : ¬ 9223372036854775807 < (S k ++ bs (dg m2)).size + (bs (dg x.p)).size := by rw [ByteArray.size_append]; omega
        have hSk2 : S k ++ bs (dg m2) ++ bs (dg x.p) = S (k + 1) := by rw [hSk, ByteArray.append_assoc]
        generalize cpv x = cv at *
        generalize bs x.t = st at *
        generalize bs (dg m2) = sq at *
        generalize bs (dg x.p) = sp at *
        obtain ⟨s0, hs0⟩ : ∃ s0, s0 = S k := ⟨_, rfl⟩
        rw [← hs0] at hs1 hs2 hSk2 ⊢
        obtain ⟨s1, hs1'⟩ : ∃ s1, s1 = s0 ++ sq := ⟨_, rfl⟩
        rw [← hs1'] at hs2 hSk2
        have hs1'' := hs1'.symm
        obtain ⟨s2, hs2'⟩ : ∃ s2, s2 = S (k + 1) := ⟨_, rfl⟩
        rw [← hs2'] at hSk2
        have HS2 := Lib.hid hs2'
        generalize x.n = xn at *
        generalize x.p = xp at *
        clear hs1' hs2' hs0 hSk hszx hszk hLk hgd hsml hx hwz hgl hm2 cr
        go_wp2_with fail
        refine (CC.out _).mono ?_
        rintro e w3 ⟨rfl, B3⟩
        have L3 := Lib.hid (hL.out.trans (B3.mono hL.out.size))
        clear B3 CC hL c0 c1
        go_wp2_with fail
        refine (CQ.out _).mono ?_
        rintro e w4 ⟨rfl, B4⟩
        have L4 := Lib.hid (L3.out.trans (B4.mono L3.out.size))
        clear B4 CQ L3
        go_wp2_with fail
        refine (CP.out _).mono ?_
        rintro e w5 ⟨rfl, B5⟩
        have L5 := Lib.hid (L4.out.trans (B5.mono L4.out.size))
        clear B5 CP L4
        go_wp2
        go_roundw
        case rel => exact ⟨k + 1, by omega, by go_num, by rw [HS2.out], L5.out⟩
        case measure => simp [intOf]; omega
    · have e : k = n := by omega
      subst e
      have HE : Hid (S k = R) := by show _ = _; rw [HSS.out, HR.out, HN.out]; dsimp only; rw [List.take_length]
      clear HC HG HLEN
      go_wp2
      go_ret
      exact ⟨by rw [HE.out]; rfl, hL.out⟩
end Go.Proofs.Ytekeaoolodmdaaa
