import Derived.Test.YtchdhpnklnfplaaA1
import Derived.Deep.RegionHeld3
/- The law's function of WireBack. -/
namespace Go.Proofs.Ytchdhpnklnfplaa
open Go.RowKit
set_option maxHeartbeats 8000000 in
set_option maxRecDepth 100000 in
theorem back_any (its : Nat → It) (v : Value) (len : Nat) (w : World) (hI : Items w v its len) :
    Calls Try.prog 4 #[v] w fun e w' => e = .returned (.bool true) ∧ Below w.heap.size w w' := by
  have HG : Hid (∀ W, Below w.heap.size w W → Calls Try.prog 8 #[v] W fun e w' => e = .returned (.bool (isGreat its len)) ∧ W = w') := fun W hW => great_any its v len W (hI.below hW)
  cases hg : isGreat its len
  · rw [hg] at HG
    unfold isGreat at hg
    rw [Bool.or_eq_false_iff] at hg
    have hlen : len ≤ 60 := by have := of_decide_eq_false hg.1; omega
    have HS := Lib.hid (longs_false hg.2)
    clear hg
    obtain ⟨-, ad, cap, rfl, ha⟩ := hI
    have HA := Lib.hid ha
    clear ha
    go_enter Try.func4, Try.ntmps4
    go_wp2_with fail
    refine (alive_any _).mono ?_
    rintro e w1 ⟨rfl, B1⟩
    have HB1 := Lib.hid B1
    clear B1
    go_wp2_with fail
    refine (HG.out _ HB1.out).mono ?_
    rintro e w2 ⟨rfl, rfl⟩
    go_wp2
    go_loopw [4] (fun i wr => ∃ k : Nat, k ≤ len ∧ i = .int .i64 k ∧ Hid (Wr (· < w.heap.size) wr w1.heap.size (bks its k) ∧ Keep (· < w.heap.size) w wr)) (fun i _ => len - (intOf i).toNat)
    case atStart => exact ⟨0, by omega, rfl, Wr.new (fun k hk => Nat.lt_of_lt_of_le hk HB1.out.size), (Keep.of_below HB1.out fun k hk _ => hk).alloc _⟩
    case round =>
      obtain ⟨k, hk, rfl, hR⟩ := hrel
      by_cases hlt : k < len
      · obtain ⟨b, o, rfl, hb, hcc⟩ := HA.out (by omega)
        have CK : Hid (∀ W, Keep (· < w.heap.size) w W → ∀ j, j < 36 → W.cell? ⟨b, o + k * 36 + j, none⟩ = some (itc (its k) j)) := fun W hW j hj => hW.cell hb ((hcc k hlt).2 j hj)
        have hs5 := HS.out k hlt
        have hlb := bks_le its k (fun i hi => HS.out i (by omega))
        have hB1 : bks its (k + 1) = bks its k ++ bk (its k) := rfl
        have hbl := bk_len (its k)
        have htl := tx_len (its k).s
        have hd6 := dg_six (its k).n
        have hd7 := dg_six ((its k).s.length : Int)
        have hB2 : Hid (bks its (k + 1) = bks its k ++ dg (clamp (its k).n) ++ tx (its k).s ++ idL (its k).id ++ (its k).s) := by show _ = _; rw [hB1]; unfold bk; simp only [List.append_assoc]
        have HL : Hid ((bks its k).length + (bk (its k)).length ≤ 1000000) := by show (bks its k).length + (bk (its k)).length ≤ 1000000; omega
        have H5 := Lib.hid hs5
        have HBL := Lib.hid hbl
        clear hs5 hlb hB1 hbl htl hd6 hd7 hcc hb
        have zk : (0 : Int) ≤ (k : Int) := by omega
        have yk : (k : Int) < (len : Int) := by omega
        generalize its k = t at CK hB2 HL H5 HBL
        generalize bks its k = l at hR hB2 HL
        have c1 : wr.cell? ⟨b, o + k * 36 + 1, none⟩ = some (.int .i64 t.n) := CK.out wr hR.out.2 1 (by omega)
        go_wp2_with fail
        refine (num_call hR.out.1 t.n _ rfl (by have := HL.out; omega)).mono ?_
        rintro e w3 ⟨rfl, g1, g2⟩
        have P3 := Lib.hid (And.intro g1 (hR.out.2.trans g2))
        have c3 : w3.cell? ⟨b, o + k * 36 + 3, none⟩ = some (.string (bs t.s)) := CK.out w3 P3.out.2 3 (by omega)
        clear g1 g2 c1
        have HT := text_call P3.out.1 t.s _ rfl (by have := HL.out; have := HBL.out; rw [List.length_append]; omega)
        have HW : Hid (∀ W l, Wr (· < w.heap.size) W w1.heap.size l → l.length ≤ 1000000 → Calls Try.prog 15 #[.pointer (some ⟨w1.heap.size, 0, none⟩), .slice (some ⟨W.heap.size, 0, none⟩) 1 1] (W.alloc (.cells #[.string (bs t.s)] 9)) fun e w' => e = .returned (.tuple #[]) ∧ Wr (· < w.heap.size) w' w1.heap.size (l ++ t.s) ∧ Keep (· < w.heap.size) W w') := fun W l hW hl => raw_call hW t.s _ rfl (by have := H5.out; omega)
        have HC : Hid (∀ W, Keep (· < w.heap.size) w W → W.cell? ⟨b, o + k * 36 + 3, none⟩ = some (.string (bs t.s))) := fun W hW => CK.out W hW 3 (by omega)
        generalize bs t.s = sx at c3 HT HW HC
        go_wp2_with fail
        refine HT.mono ?_
        rintro e w4 ⟨rfl, g1, g2⟩
        have P4 := Lib.hid (And.intro g1 (P3.out.2.trans g2))
        clear g1 g2 c3
        go_upto_region 11 with fail
        refine wp_region_lit ?_
        refine wpList_move rfl (.tmp 0) rfl ?_
        refine wpList_move rfl (.tmp 4) rfl ?_
        refine wpList_index_item rfl (.tmp 33) (.tmp 34) rfl b o k len cap rfl rfl hlt ?_
        refine wpList_field_id rfl rfl (.tmp 35) 36 rfl rfl rfl b (o + k * 36) rfl rfl t.id (fun j hj => by rw [Nat.add_assoc]; have := CK.out w4 P4.out.2 (4 + j) (by omega); rw [itc_id] at this; exact this) ?_
        refine wpList_build_id rfl (.tmp 37) rfl t.id rfl ?_
        go_wp2_with fail
        refine (id_call P4.out.1 t.id _ _ rfl rfl (by have := HL.out; have := HBL.out; rw [List.length_append, List.length_append]; omega)).mono ?_
        rintro e w5 ⟨rfl, g1, g2⟩
        have P5 := Lib.hid (And.intro g1 (P4.out.2.trans g2))
        have c3 := HC.out w5 P5.out.2
        clear g1 g2
        go_wp2_with fail
        refine (HW.out _ _ P5.out.1 (by have := HL.out; have := HBL.out; rw [List.length_append, List.length_append, List.length_append, idL_length]; omega)).mono ?_
        rintro e w6 ⟨rfl, g1, g2⟩
        have P6 := Lib.hid (And.intro g1 (P5.out.2.trans g2))
        clear g1 g2 c3
        go_wp2
        go_roundw
        case rel => exact ⟨k + 1, by omega, by go_num, by rw [hB2.out]; exact P6.out.1, P6.out.2⟩
        case measure => simp [intOf]; omega
      · have ek : k = len := by omega
        subst ek
        have hL := bks_le its k (fun i hi => HS.out i hi)
        have HN : Hid (∀ W, Calls Try.prog 17 #[.string (bs (bks its k))] W fun e w' => ∃ r, e = .returned (.pointer (some ⟨r, 0, none⟩)) ∧ W.heap.size ≤ r ∧ Rd w' r (bks its k) 0 0 ∧ Below W.heap.size W w') := fun W => new_any (bks its k) W (by omega)
        have HL : Hid ((bks its k).length ≤ 281474976710656) := by show (bks its k).length ≤ 281474976710656; omega
        have HSt : Hid (∀ W, W = wr → Calls Try.prog 16 #[.pointer (some ⟨w1.heap.size, 0, none⟩)] W fun e w' => e = .returned (.string (bs (bks its k))) ∧ W = w') := fun W hW => by rw [hW]; exact wstr_any hR.out.1
        generalize bs (bks its k) = sb at HN HSt
        clear hlt hL hk
        go_wp2_with fail
        refine (HSt.out _ rfl).mono ?_
        rintro e w4 ⟨rfl, rfl⟩
        go_wp2_with fail
        refine (HN.out _).mono ?_
        rintro e w5 ⟨r, rfl, hr, hR5, hB5⟩
        have K5 : Hid (Keep (· < w.heap.size) w w5) := hR.out.2.trans (Keep.of_below (hB5.mono hR.out.2.size) fun k hk _ => hk)
        have hrB : Hid (w.heap.size ≤ r) := Nat.le_trans hR.out.2.size hr
        have HR5 := Lib.hid hR5
        clear hR5 hB5 hr HN HSt hR
        go_wp2
        go_loopw [6] (fun i wr => ∃ m : Nat, m ≤ k ∧ i = .int .i64 m ∧ Hid (Rd wr r (bks its k) (bks its m).length 0 ∧ Keep (fun x => x ≠ r) w5 wr)) (fun i _ => k - (intOf i).toNat)
        case atStart => exact ⟨0, by omega, rfl, HR5.out, Keep.refl _ _⟩
        case round =>
          obtain ⟨m, hm, rfl, hM⟩ := hrel
          by_cases hlt : m < k
          · obtain ⟨b, o, rfl, hb, hcc⟩ := HA.out (by omega)
            have hok := (hcc m hlt).1.2
            have hbr : b ≠ r := by have := hrB.out; omega
            have CW : Hid (∀ W, Keep (fun x => x ≠ r) w5 W → ∀ j, j < 36 → W.cell? ⟨b, o + m * 36 + j, none⟩ = some (itc (its m) j)) := fun W hW j hj => hW.cell hbr (K5.out.cell hb ((hcc m hlt).2 j hj))
            clear hcc hb
            obtain ⟨p1, p2, p3, e1, e2, e3, e4, l0, l1, l2, l3⟩ := back_reads its m k hlt (HS.out m hlt)
            have zm : (0 : Int) ≤ (m : Int) := by omega
            have ym : (m : Int) < (k : Int) := by omega
            have hz := bs_size (its m).s
            have H18 : Hid (∀ cz : Int, cz = (clamp (its m).n : Int) → ∀ W, Rd W r (bks its k) (bks its m).length 0 → Calls Try.prog 18 #[.pointer (some ⟨r, 0, none⟩), .int .i64 1099511627775] W fun v w' => v = .returned (.int .i64 cz) ∧ Rd w' r (bks its k) p1 0 ∧ Keep (fun x => x ≠ r) W w') := fun cz hcz W hW => by
              have h := rnum_any 1099511627775 hW l0 HL.out
              rw [e1] at h
              rw [hcz]
              exact h
            have A19 : Hid (∀ W, Rd W r (bks its k) p1 0 → Calls Try.prog 19 #[.pointer (some ⟨r, 0, none⟩), .int .i64 500] W fun v w' => v = .returned (.string (bs (its m).s)) ∧ Rd w' r (bks its k) p2 0 ∧ Keep (fun x => x ≠ r) W w') := fun W hW => by
              have h := rtext_any 500 hW l1 HL.out
              rw [e2] at h
              exact h
            have A20 : Hid (∀ W, Rd W r (bks its k) p2 0 → Calls Try.prog 20 #[.pointer (some ⟨r, 0, none⟩)] W fun v w' => v = .returned (.agg (arr 32 (bv (idOf (idL (its m).id))))) ∧ Rd w' r (bks its k) p3 0 ∧ Keep (fun x => x ≠ r) W w') := fun W hW => by
              have h := rid_any hW l2 HL.out
              rw [e3] at h
              exact h
            have A21 : Hid (∀ W, Rd W r (bks its k) p3 0 → Calls Try.prog 21 #[.pointer (some ⟨r, 0, none⟩), .int .i64 ((bs (its m).s).size : Int)] W fun v w' => v = .returned (.string (bs (its m).s)) ∧ Rd w' r (bks its k) (bks its (m + 1)).length 0 ∧ Keep (fun x => x ≠ r) W w') := fun W hW => by
              have h := rraw_any ((its m).s.length : Int) hW l3 HL.out
              rw [e4] at h
              rw [hz]
              exact h
            clear e1 e2 e3 e4 l0 l1 l2 l3 hz
            have q : ∀ W : World, (binOp .neq 30 (.agg (arr 32 (bv (idOf (idL (its m).id))))) (.agg (arr 32 (bv (its m).id)))).run Try.prog W = .ok (.bool false) W := fun W => neq_arr _ _ (id_get (its m).id) W
            have c1 : wr.cell? ⟨b, o + m * 36 + 1, none⟩ = some (.int .i64 (its m).n) := CW.out wr hM.out.2 1 (by omega)
            have S0 : wr.drew.cell? ⟨b, o + m * 36 + 3, none⟩ = some (.string (bs (its m).s)) ∧ wr.drew.rangeAt b (o + m * 36 + 4) (arr 32 (bv (its m).id)).toList := by
              refine ⟨CW.out wr.drew hM.out.2.drew 3 (by omega), fun j v hv => ?_⟩
              have hj : j < 32 := by
                have := (List.getElem?_eq_some_iff.1 hv).1
                rw [Array.length_toList, arr_size] at this
                exact this
              rw [Array.getElem?_toList, arr_get _ _ _ hj] at hv
              cases hv
              rw [Nat.add_assoc, CW.out wr.drew hM.out.2.drew (4 + j) (by omega), itc_id]
            have R0 : Rd wr.drew r (bks its k) (bks its m).length 0 := hM.out.1
            have nF : some 32 = some (arr 32 (bv (its m).id)).toList.length := by rw [Array.length_toList, arr_size]
            rw [show arr 32 (bv (its m).id) = (arr 32 (bv (its m).id)).toList.toArray from (Array.toArray_toList).symm] at q
            generalize (arr 32 (bv (its m).id)).toList = F at q S0 nF
            generalize arr 32 (bv (idOf (idL (its m).id))) = X at q A20
            generalize bs (its m).s = sm at A19 A21 S0
            have HM2 : Hid (Keep (fun x => x ≠ r) w5 wr.drew) := hM.out.2.drew
            generalize hp4 : (bks its (m + 1)).length = p4 at A21
            have HP4 := Lib.hid hp4
            have u30 := ty30
            have z30 : (Try.prog.info? 30).map (·.size) = some F.length := sz30.trans nF
            have H5c := Lib.hid (And.intro c1 hok)
            clear hp4 nF hm
            by_cases hneg : (its m).n < 0
            · have A18 := H18.out 0 (by unfold clamp; omega)
              clear H18
              generalize (its m).n = n at c1 hneg
              go_upto_region 22 with fail
              go_region_held3 (fun w' => w'.cell? ⟨b, o + m * 36 + 3, none⟩ = some (.string sm) ∧ w'.rangeAt b (o + m * 36 + 4) F) (first | exact S0 | assumption) (first | (go_at_call 18; refine (A18 _ R0).mono ?_; rintro e w6 ⟨rfl, r1, k1⟩; have s1 := S_keep hbr S0 k1) | (go_at_call 19; refine (A19.out _ r1).mono ?_; rintro e w7 ⟨rfl, r2, k2⟩; have s2 := S_keep hbr s1 k2) | (go_at_call 20; refine (A20.out _ r2).mono ?_; rintro e w8 ⟨rfl, r3, k3⟩; have s3 := S_keep hbr s2 k3) | (go_at_call 21; refine (A21.out _ r3).mono ?_; rintro e w9 ⟨rfl, r4, k4⟩; have s4 := S_keep hbr s3 k4))
              have G4 := Lib.hid (And.intro r4 (HM2.out.trans (k1.trans (k2.trans (k3.trans k4)))))
              clear r1 r2 r3 r4 k1 k2 k3 k4 s1 s2 s3 s4 S0 R0 q
              go_wp2
              go_roundw
              case rel => exact ⟨m + 1, by omega, by go_num, by rw [HP4.out]; exact G4.out.1, G4.out.2⟩
              case measure => simp [intOf]; omega
            · by_cases hov : 1099511627775 < (its m).n
              · have A18 := H18.out 1099511627775 (by unfold clamp; omega)
                have h0 : (0 : Int) ≤ (its m).n := by omega
                clear H18 hneg
                generalize (its m).n = n at c1 hov h0
                go_upto_region 22 with fail
                go_region_held3 (fun w' => w'.cell? ⟨b, o + m * 36 + 3, none⟩ = some (.string sm) ∧ w'.rangeAt b (o + m * 36 + 4) F) (first | exact S0 | assumption) (first | (go_at_call 18; refine (A18 _ R0).mono ?_; rintro e w6 ⟨rfl, r1, k1⟩; have s1 := S_keep hbr S0 k1) | (go_at_call 19; refine (A19.out _ r1).mono ?_; rintro e w7 ⟨rfl, r2, k2⟩; have s2 := S_keep hbr s1 k2) | (go_at_call 20; refine (A20.out _ r2).mono ?_; rintro e w8 ⟨rfl, r3, k3⟩; have s3 := S_keep hbr s2 k3) | (go_at_call 21; refine (A21.out _ r3).mono ?_; rintro e w9 ⟨rfl, r4, k4⟩; have s4 := S_keep hbr s3 k4))
                have G4 := Lib.hid (And.intro r4 (HM2.out.trans (k1.trans (k2.trans (k3.trans k4)))))
                clear r1 r2 r3 r4 k1 k2 k3 k4 s1 s2 s3 s4 S0 R0 q
                go_wp2
                go_roundw
                case rel => exact ⟨m + 1, by omega, by go_num, by rw [HP4.out]; exact G4.out.1, G4.out.2⟩
                case measure => simp [intOf]; omega
              · have A18 := H18.out (its m).n (by unfold clamp; omega)
                have h0 : (0 : Int) ≤ (its m).n := by omega
                have h9 : (its m).n ≤ 1099511627775 := by omega
                clear H18 hneg hov
                generalize (its m).n = n at c1 h0 h9 A18
                go_upto_region 22 with fail
                go_region_held3 (fun w' => w'.cell? ⟨b, o + m * 36 + 3, none⟩ = some (.string sm) ∧ w'.rangeAt b (o + m * 36 + 4) F) (first | exact S0 | assumption) (first | (go_at_call 18; refine (A18 _ R0).mono ?_; rintro e w6 ⟨rfl, r1, k1⟩; have s1 := S_keep hbr S0 k1) | (go_at_call 19; refine (A19.out _ r1).mono ?_; rintro e w7 ⟨rfl, r2, k2⟩; have s2 := S_keep hbr s1 k2) | (go_at_call 20; refine (A20.out _ r2).mono ?_; rintro e w8 ⟨rfl, r3, k3⟩; have s3 := S_keep hbr s2 k3) | (go_at_call 21; refine (A21.out _ r3).mono ?_; rintro e w9 ⟨rfl, r4, k4⟩; have s4 := S_keep hbr s3 k4))
                have G4 := Lib.hid (And.intro r4 (HM2.out.trans (k1.trans (k2.trans (k3.trans k4)))))
                clear r1 r2 r3 r4 k1 k2 k3 k4 s1 s2 s3 s4 S0 R0 q
                go_wp2
                go_roundw
                case rel => exact ⟨m + 1, by omega, by go_num, by rw [HP4.out]; exact G4.out.1, G4.out.2⟩
                case measure => simp [intOf]; omega
          · have em : m = k := by omega
            subst em
            have hE : Hid (∀ W, Rd W r (bks its m) (bks its m).length 0 → Calls Try.prog 22 #[.pointer (some ⟨r, 0, none⟩)] W fun v w' => v = .returned (.int .i64 0) ∧ Below W.heap.size W w') := fun W hW => by
              have h := end_any hW
              have e0 : endOf (bks its m).length (bks its m).length 0 = 0 := by
                unfold endOf
                rw [if_neg (by simp), if_neg (by omega)]
              rw [e0] at h
              exact h
            have G := Lib.hid (And.intro hM.out.1 (K5.out.trans (hM.out.2.mono fun x hx _ => by have := hrB.out; omega)))
            clear hlt
            go_wp2_with fail
            refine (alive_any _).mono ?_
            rintro e7 w7 ⟨rfl, B7⟩
            have G7 := Lib.hid (And.intro (G.out.1.keep (K := fun _ => True) (Keep.all B7) trivial) (G.out.2.trans (Keep.all B7)))
            clear B7
            go_wp2_with fail
            refine (hE.out _ G7.out.1).mono ?_
            rintro e8 w8 ⟨rfl, B8⟩
            have G8 := Lib.hid (G7.out.2.trans (Keep.all B8))
            clear B8
            go_wp2
            go_ret
            exact ⟨rfl, G8.out.below (Nat.le_refl _)⟩
  · rw [hg] at HG
    clear hI hg
    go_enter Try.func4, Try.ntmps4
    go_wp2_with fail
    refine (alive_any _).mono ?_
    rintro e w1 ⟨rfl, B1⟩
    have HB1 := Lib.hid B1
    clear B1
    go_wp2_with fail
    refine (HG.out _ HB1.out).mono ?_
    rintro e w2 ⟨rfl, rfl⟩
    go_wp2_with fail
    refine (alive_any _).mono ?_
    rintro e w3 ⟨rfl, B3⟩
    have HB3 := Lib.hid (HB1.out.trans (B3.mono HB1.out.size))
    clear B3
    go_wp2
    go_ret
    exact ⟨rfl, HB3.out⟩
end Go.Proofs.Ytchdhpnklnfplaa
