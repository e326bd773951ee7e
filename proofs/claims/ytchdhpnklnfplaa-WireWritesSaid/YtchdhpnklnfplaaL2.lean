import Derived.Test.YtchdhpnklnfplaaL1b
namespace Go.Proofs.Ytchdhpnklnfplaa
open Go.RowKit
set_option maxHeartbeats 2000000 in
set_option maxRecDepth 100000 in
theorem writes_any (its : Nat → It) (v : Value) (len : Nat) (w : World) (hI : Items w v its len) :
    Calls Try.prog 3 #[v] w fun e w' => e = .returned (.bool true) ∧ Below w.heap.size w w' := by
  have HG : Hid (∀ W, Below w.heap.size w W → Calls Try.prog 8 #[v] W fun e w' => e = .returned (.bool (isGreat its len)) ∧ W = w') := fun W hW => great_any its v len W (hI.below hW)
  cases hg : isGreat its len
  · rw [hg] at HG
    unfold isGreat at hg
    rw [Bool.or_eq_false_iff] at hg
    have hlen : len ≤ 60 := by have := of_decide_eq_false hg.1; omega
    have HS := Lib.hid (longs_false hg.2)
    clear hg
    obtain ⟨-, ad, cap, rfl, ha⟩ := hI
    have HA := Lib.hid ha
    clear ha
    go_enter Try.func3, Try.ntmps3
    go_wp2_with fail
    refine (alive_any _).mono ?_
    rintro e w1 ⟨rfl, B1⟩
    have HB1 := Lib.hid B1
    clear B1
    go_wp2_with fail
    refine (HG.out _ HB1.out).mono ?_
    rintro e w2 ⟨rfl, rfl⟩
    go_wp2
    go_loopw [5, 6] (fun q i wr => ∃ (k : Nat) (qs : ByteArray), k ≤ len ∧ i = .int .i64 k ∧ q = .string qs ∧ Hid (qs = bs (wrs its k) ∧ Wr (· < w.heap.size) wr w1.heap.size (wrs its k) ∧ Keep (· < w.heap.size) w wr)) (fun _ i _ => len - (intOf i).toNat)
    case atStart => exact ⟨0, _, by omega, rfl, rfl, rfl, Wr.new (fun k hk => Nat.lt_of_lt_of_le hk HB1.out.size), (Keep.of_below HB1.out fun k hk _ => hk).alloc _⟩
    case round =>
      obtain ⟨k, qs, hk, rfl, rfl, hR⟩ := hrel
      by_cases hlt : k < len
      · obtain ⟨b, o, rfl, hb, hcc⟩ := HA.out (by omega)
        have hok := (hcc k hlt).1
        have ck : ∀ j, j < 36 → wr.cell? ⟨b, o + k * 36 + j, none⟩ = some (itc (its k) j) := fun j hj => hR.out.2.2.cell hb ((hcc k hlt).2 j hj)
        clear hcc
        have hs5 := HS.out k hlt
        have hlw := wrs_le its k (fun i hi => HS.out i (by omega))
        have hl1 : Hid ((wrs its k).length ≤ 1000000) := by show (wrs its k).length ≤ 1000000; omega
        have hw1 : wrs its (k + 1) = wrs its k ++ piece (its k) := rfl
        have PS := Lib.hid (Pk.start (t := its k) hR.out.2.2 hR.out.2.1)
        have hq := hR.out.1
        have hsz : Hid ((wrs its k).length + (piece (its k)).length ≤ 1000000) := by
          show (wrs its k).length + (piece (its k)).length ≤ 1000000
          have := piece_le (its k) hs5
          omega
        have zk : (0 : Int) ≤ (k : Int) := by omega
        have yk : (k : Int) < (len : Int) := by omega
        have W1 := Lib.hid hw1
        have HQ := Lib.hid hq
        have H5 := Lib.hid hs5
        clear hw1 hq hs5 hlw hb
        generalize its k = t at ck hok PS W1 hsz H5
        generalize wrs its k = l at PS W1 HQ hsz hl1
        go_upto_region 12 with (first | (refine wpList_load_item rfl (.tmp 21) rfl b (o + k * 36) rfl t ck ?_) | (refine wpList_store_blk rfl 32 (.tmp 7) (.tmp 22) rfl wr.heap.size 36 (itc t) (itc ⟨0, 0, 0, [], fun _ => 0⟩) rfl rfl 32 (Blk.newAt _ (heap_alloc_new _ _) rfl) sz32 (fun i _ => by match i with | 0 => rfl | 1 => rfl | 2 => rfl | 3 => rfl | j + 4 => rfl) ?_))
        rw [World.setRow_alloc_new]
        generalize wr.alloc (.cells (arr 36 (itc t)) 32) = w2 at PS ⊢
        generalize wr.heap.size = xb at PS ⊢
        have c0 : w2.cell? ⟨xb, 0, none⟩ = some (.int .i64 t.kind) := PS.out.cell 0 (by omega)
        have k0 := hok.1.1
        have k1 := hok.1.2
        clear hok ck hlt
        by_cases h0 : t.kind.tmod 4 = 0
        · skip
          have hp : piece t = dg (clamp t.n) := by unfold piece; rw [if_pos h0]
          have W2 : Hid (wrs its (k + 1) = l ++ dg (clamp t.n)) := by show _ = _; rw [← hp]; exact W1.out
          have hap : qs ++ bs (dg (clamp t.n)) = bs (l ++ dg (clamp t.n)) := by rw [HQ.out, bs_append]
          have hsz2 : ¬ 9223372036854775807 < qs.size + (bs (dg (clamp t.n))).size := by rw [HQ.out, bs_size, bs_size]; have := hsz.out; rw [hp] at this; omega
          clear hp
          have c1 : w2.cell? ⟨xb, 1, none⟩ = some (.int .i64 t.n) := PS.out.cell 1 (by omega)
          go_wp2_with fail
          refine (PS.out.num hl1.out).mono ?_
          rintro e w3 ⟨rfl, g⟩
          have P3 := Lib.hid g
          have c1 : w3.cell? ⟨xb, 1, none⟩ = some (.int .i64 t.n) := g.cell 1 (by omega)
          clear g
          go_wp2_with fail
          refine (wnum_nil _ _).mono ?_
          rintro e w4 ⟨rfl, rfl⟩
          have P4 := Lib.hid (P3.out.alloc (.cells #[.int .i64 t.n] 3))
          generalize w3.alloc (.cells #[.int .i64 t.n] 3) = w4 at P4 ⊢
          have c1 : w4.cell? ⟨xb, 1, none⟩ = some (.int .i64 t.n) := P4.out.cell 1 (by omega)
          have HR := refnum_any t.n w4
          have hr : bs (l ++ dg (clamp t.n)) = bs (l ++ dg (clamp t.n)) := rfl
          generalize bs (dg (clamp t.n)) = r at hap hsz2 HR
          go_wp2_with fail
          refine HR.mono ?_
          rintro e w5 ⟨rfl, g⟩
          have P5 := Lib.hid (P4.out.below g)
          clear g hr
          have P9 := P5
          go_wp2_with fail
          refine (wstr_any P9.out.wr).mono ?_
          rintro e wz ⟨rfl, rfl⟩
          go_wp2
          go_roundw
          case rel => exact ⟨k + 1, _, by omega, by go_num, rfl, by rw [W2.out], by rw [W2.out]; exact P9.out.wr.mono (fun k hk => Or.inl hk), P9.out.keep⟩
          case measure => simp [intOf]; omega
        by_cases h1 : t.kind.tmod 4 = 1
        · skip
          have hp : piece t = tx t.s := by unfold piece; rw [if_neg h0, if_pos h1]
          have W2 : Hid (wrs its (k + 1) = l ++ tx t.s) := by show _ = _; rw [← hp]; exact W1.out
          have hap : qs ++ bs (tx t.s) = bs (l ++ tx t.s) := by rw [HQ.out, bs_append]
          have hsz2 : ¬ 9223372036854775807 < qs.size + (bs (tx t.s)).size := by rw [HQ.out, bs_size, bs_size]; have := hsz.out; rw [hp] at this; omega
          clear hp
          have c1 : w2.cell? ⟨xb, 3, none⟩ = some (.string (bs t.s)) := PS.out.cell 3 (by omega)
          have HT := PS.out.text hl1.out H5.out
          have HR0 : Hid (∀ W, Calls Try.prog 12 #[.string (bs t.s)] W fun e w' => e = .returned (.string (bs (tx t.s))) ∧ Below W.heap.size W w') := fun W => reftext_any t.s W (by have := H5.out; omega)
          have HC : Hid (∀ W l, Pk w.heap.size w w1.heap.size xb t l W → W.cell? ⟨xb, 3, none⟩ = some (.string (bs t.s))) := fun W l h => h.cell 3 (by omega)
          generalize bs (tx t.s) = r at hap hsz2 HR0
          generalize bs t.s = sx at c1 HT HR0 HC
          go_wp2_with fail
          refine HT.mono ?_
          rintro e w3 ⟨rfl, g⟩
          have P3 := Lib.hid g
          have c1 := HC.out w3 _ g
          clear g
          go_wp2_with fail
          refine (wtext_nil_one sx w3.heap.size _ (cell_of_one (heap_alloc_new _ _))).mono ?_
          rintro e w4 ⟨rfl, g⟩
          have P4 := Lib.hid ((P3.out.alloc (.cells #[.string sx] 9)).below g)
          have c1 := HC.out w4 _ P4.out
          clear g
          have HR := HR0.out w4
          go_wp2_with fail
          refine HR.mono ?_
          rintro e w5 ⟨rfl, g⟩
          have P5 := Lib.hid (P4.out.below g)
          clear g
          have P9 := P5
          go_wp2_with fail
          refine (wstr_any P9.out.wr).mono ?_
          rintro e wz ⟨rfl, rfl⟩
          go_wp2
          go_roundw
          case rel => exact ⟨k + 1, _, by omega, by go_num, rfl, by rw [W2.out], by rw [W2.out]; exact P9.out.wr.mono (fun k hk => Or.inl hk), P9.out.keep⟩
          case measure => simp [intOf]; omega
        by_cases h2 : t.kind.tmod 4 = 2
        · skip
          have hp : piece t = idL t.id := by unfold piece; rw [if_neg h0, if_neg h1, if_pos h2]
          have W2 : Hid (wrs its (k + 1) = l ++ idL t.id) := by show _ = _; rw [← hp]; exact W1.out
          have hap : qs ++ bs (idL t.id) = bs (l ++ idL t.id) := by rw [HQ.out, bs_append]
          have hsz2 : ¬ 9223372036854775807 < qs.size + (bs (idL t.id)).size := by rw [HQ.out, bs_size, bs_size]; have := hsz.out; rw [hp] at this; omega
          clear hp
          go_upto_region 22 with fail
          refine wp_region_lit ?_
          refine wpList_field_id rfl rfl (.tmp 7) 60 rfl rfl rfl xb 0 rfl rfl t.id PS.out.idcells ?_
          refine wpList_build_id rfl (.tmp 61) rfl t.id rfl ?_
          go_wp2_with fail
          refine (PS.out.ident hl1.out).mono ?_
          rintro e w3 ⟨rfl, g⟩
          have P3 := Lib.hid g
          clear g
          go_upto_region 23 with fail
          refine wp_region_lit ?_
          refine wpList_move rfl (.tmp 4) rfl ?_
          refine wpList_field_id rfl rfl (.tmp 7) 65 rfl rfl rfl xb 0 rfl rfl t.id P3.out.idcells ?_
          refine wpList_build_id rfl (.tmp 66) rfl t.id rfl ?_
          go_wp2_with fail
          refine (wid_nil _ _).mono ?_
          rintro e w4 ⟨rfl, rfl⟩
          have P4 := Lib.hid (P3.out.alloc (.cells (arr 32 (bv t.id)) 30))
          generalize w3.alloc (.cells (arr 32 (bv t.id)) 30) = w4 at P4 ⊢
          have HR := refid_any t.id w4
          generalize bs (idL t.id) = r at hap hsz2 HR
          go_upto_region 24 with fail
          refine wp_region_lit ?_
          refine wpList_move rfl (.tmp 5) rfl ?_
          refine wpList_field_id rfl rfl (.tmp 7) 70 rfl rfl rfl xb 0 rfl rfl t.id P4.out.idcells ?_
          go_wp2_with fail
          refine HR.mono ?_
          rintro e w5 ⟨rfl, g⟩
          have P5 := Lib.hid (P4.out.below g)
          clear g
          have P9 := P5
          go_wp2_with fail
          refine (wstr_any P9.out.wr).mono ?_
          rintro e wz ⟨rfl, rfl⟩
          go_wp2
          go_roundw
          case rel => exact ⟨k + 1, _, by omega, by go_num, rfl, by rw [W2.out], by rw [W2.out]; exact P9.out.wr.mono (fun k hk => Or.inl hk), P9.out.keep⟩
          case measure => simp [intOf]; omega
        by_cases h3 : t.kind.tmod 4 = 3
        · skip
          have hp : piece t = t.s := by unfold piece; rw [if_neg h0, if_neg h1, if_neg h2, if_pos h3]
          have W2 : Hid (wrs its (k + 1) = l ++ t.s) := by show _ = _; rw [← hp]; exact W1.out
          have hap : qs ++ bs (t.s) = bs (l ++ t.s) := by rw [HQ.out, bs_append]
          have hsz2 : ¬ 9223372036854775807 < qs.size + (bs (t.s)).size := by rw [HQ.out, bs_size, bs_size]; have := hsz.out; rw [hp] at this; omega
          clear hp
          have c1 : w2.cell? ⟨xb, 3, none⟩ = some (.string (bs t.s)) := PS.out.cell 3 (by omega)
          have HT := PS.out.raw hl1.out H5.out
          have HC : Hid (∀ W l, Pk w.heap.size w w1.heap.size xb t l W → W.cell? ⟨xb, 3, none⟩ = some (.string (bs t.s))) := fun W l h => h.cell 3 (by omega)
          generalize bs t.s = sx at c1 HT HC hap hsz2
          go_wp2_with fail
          refine HT.mono ?_
          rintro e w3 ⟨rfl, g⟩
          have P3 := Lib.hid g
          have c1 := HC.out w3 _ g
          clear g
          go_wp2_with fail
          refine (wraw_nil _ _).mono ?_
          rintro e w4 ⟨rfl, rfl⟩
          have P5 := Lib.hid (P3.out.alloc (.cells #[.string sx] 9))
          generalize w3.alloc (.cells #[.string sx] 9) = w4 at P5 ⊢
          have c1 := HC.out w4 _ P5.out
          have P9 := P5
          go_wp2_with fail
          refine (wstr_any P9.out.wr).mono ?_
          rintro e wz ⟨rfl, rfl⟩
          go_wp2
          go_roundw
          case rel => exact ⟨k + 1, _, by omega, by go_num, rfl, by rw [W2.out], by rw [W2.out]; exact P9.out.wr.mono (fun k hk => Or.inl hk), P9.out.keep⟩
          case measure => simp [intOf]; omega
        · skip
          have hp : piece t = [] := by unfold piece; rw [if_neg h0, if_neg h1, if_neg h2, if_neg h3]
          have W2 : Hid (wrs its (k + 1) = l) := by show _ = _; rw [W1.out, hp, List.append_nil]
          have hq := HQ.out
          have HQ2 : Hid (∀ W, Wr (fun k => k < w.heap.size ∨ k = xb) W w1.heap.size l → Calls Try.prog 16 #[.pointer (some ⟨w1.heap.size, 0, none⟩)] W fun e w' => e = .returned (.string qs) ∧ W = w') := fun W hW => by rw [hq]; exact wstr_any hW
          clear hp hq
          go_wp2_with fail
          refine (HQ2.out _ PS.out.wr).mono ?_
          rintro e wz ⟨rfl, rfl⟩
          go_wp2
          go_roundw
          case rel => exact ⟨k + 1, _, by omega, by go_num, rfl, by rw [W2.out]; exact HQ.out, by rw [W2.out]; exact PS.out.wr.mono (fun k hk => Or.inl hk), PS.out.keep⟩
          case measure => simp [intOf]; omega
      · have em : k = len := by omega
        subst em
        have HW := Lib.hid hR.out.2.1
        have HK := Lib.hid hR.out.2.2
        have HQ := Lib.hid hR.out.1
        generalize wrs its k = l at HW HQ
        clear hR hlt
        go_wp2_with fail
        refine (alive_any _).mono ?_
        rintro e w5 ⟨rfl, g⟩
        have HW5 : Hid (∀ W, W = w5 → Calls Try.prog 16 #[.pointer (some ⟨w1.heap.size, 0, none⟩)] W fun e w' => e = .returned (.string qs) ∧ W = w') := fun W hW => by rw [hW, HQ.out]; exact wstr_any (HW.out.all g)
        have HK5 := Lib.hid (HK.out.trans (Keep.all g))
        clear g HW HK
        go_wp2_with fail
        refine (HW5.out _ rfl).mono ?_
        rintro e w6 ⟨rfl, rfl⟩
        go_wp2_with fail
        refine (wstr_nil _).mono ?_
        rintro e w7 ⟨rfl, rfl⟩
        go_wp2
        go_ret
        exact ⟨rfl, HK5.out.below (Nat.le_refl _)⟩
  · rw [hg] at HG
    clear hI hg
    go_enter Try.func3, Try.ntmps3
    go_wp2_with fail
    refine (alive_any _).mono ?_
    rintro e w1 ⟨rfl, B1⟩
    have HB1 := Lib.hid B1
    clear B1
    go_wp2_with fail
    refine (HG.out _ HB1.out).mono ?_
    rintro e w2 ⟨rfl, rfl⟩
    go_wp2_with fail
    refine (alive_any _).mono ?_
    rintro e w3 ⟨rfl, B3⟩
    have HB3 := Lib.hid (HB1.out.trans (B3.mono HB1.out.size))
    clear B3
    go_wp2
    go_ret
    exact ⟨rfl, HB3.out⟩
end Go.Proofs.Ytchdhpnklnfplaa
