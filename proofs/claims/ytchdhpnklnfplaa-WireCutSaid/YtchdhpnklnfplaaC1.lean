import Derived.Test.YtchdhpnklnfplaaM
/- The law's function of WireCut. -/
namespace Go.Proofs.Ytchdhpnklnfplaa
open Go.RowKit
/- the blocks below B, and the one of a slice of the call's own -/
def Ke (B : Nat) (v : Value) (k : Nat) : Prop := k < B ∨ v.ownBlock = some k
theorem t48 : Try.prog.underlying 48 = some (.slice 3) := by kernel_rfl
theorem i3 : (Try.prog.info? 3).map (fun i => (i.zero, i.size, i.bytes)) = some (some (.int .i64 0), 1, 8) := by kernel_rfl
theorem app_ends {B : Nat} {w : World} {h : Nat} {l : List UInt8} {v : Value} {n : Nat} {xs : List Value} (hw : Wr (Ke B v) w h l) (ho : w.ownsRow B 3 1 v n xs) (hB : B ≤ w.heap.size) (x : Int) (hn : n + 1 ≤ 1000) :
    ∃ g cap w', (Builtin.append_ #[48, 48] 48 #[v, .slice (some ⟨w.heap.size, 0, none⟩) 1 1]).run Try.prog (w.alloc (.cells #[.int .i64 x] 3)) = .ok (.slice (some ⟨g, 0, none⟩) (n + 1) cap) w' ∧
      w'.ownsRow B 3 1 (.slice (some ⟨g, 0, none⟩) (n + 1) cap) (n + 1) (xs ++ [.int .i64 x]) ∧ Wr (Ke B (.slice (some ⟨g, 0, none⟩) (n + 1) cap)) w' h l ∧ Keep (· < B) w w' := by
  obtain ⟨i0, hi, hz0, hz1, hz2⟩ := info_parts i3
  obtain ⟨g, cap, w', hr, ho', hg, hat, hlt⟩ := run_append_lies (P := Try.prog) (w.alloc (.cells #[.int .i64 x] 3)) 48 48 B 3 i0 (.int .i64 0) 1 8 t48 hi hz0 hz1 hz2 rfl (by decide) v n xs (ho.alloc _) ⟨w.heap.size, 0, none⟩ 1 1 [.int .i64 x] rfl
    (World.news_of_block (heap_alloc_new _ _)) (by intro u hu; simp at hu; subst hu; rfl) (by decide) (by unfold maxLen; omega) (by omega) (by simp; omega) (w.heap.size + 1) (by simp)
  have K1 : Keep (· < B) w w' := ((Keep.refl _ w).alloc _).grown hg (fun k hk e => by have := (ho.lt k hk).1; omega)
  refine ⟨g, cap, w', hr, ho', ?_, K1⟩
  have hgB : B ≤ g := (ho'.lt g rfl).1
  have hl := hw.lt
  obtain ⟨hb, v0, h1, h2, h3, h4⟩ := hw
  have hne : some h ≠ v.ownBlock := fun e => h3 (Or.inr e.symm)
  refine ⟨fun k hk => ?_, v0, ?_, ?_, ?_, ?_⟩
  · rcases hk with hk | hk
    · have := K1.size; omega
    · have : g = k := by simpa [Value.ownBlock] using hk
      omega
  · rw [hg.block h (by simp; omega) hne]
    exact heap_alloc_old _ _ hl |>.trans h1
  · refine (h2.alloc _).kept hg ?_
    cases hv : v0.ownBlock with
    | none => exact .inl rfl
    | some k => exact .inr (fun e => h4 k hv (Or.inr e.symm))
  · rintro (e | e)
    · exact h3 (Or.inl e)
    · have e2 : g = h := by simpa [Value.ownBlock] using e
      rcases hat with hat | hat
      · exact hne (by rw [hat, e2])
      · omega
  · rintro k hk (e | e)
    · exact h4 k hk (Or.inl e)
    · have e2 : g = k := by simpa [Value.ownBlock] using e
      have hk2 := (h2.lt k hk).2
      rcases hat with hat | hat
      · exact h4 k hk (Or.inr (by rw [hat, e2]))
      · omega
theorem owns_keep {K : Nat → Prop} {w w' : World} {B e size : Nat} {v : Value} {n : Nat} {xs : List Value} (h : w.ownsRow B e size v n xs) (hk : Keep K w w') (hK : ∀ k, v.ownBlock = some k → K k) : w'.ownsRow B e size v n xs := by
  refine ⟨h.1, ?_⟩
  rcases h.2 with hn | ⟨g, cap, cur, rfl, hb, hgg, rest⟩
  · exact .inl hn
  · exact .inr ⟨g, cap, cur, rfl, hb, hk.at (hK g rfl) hgg, rest⟩
def endV (its : Nat → It) (i : Nat) : Value := .int .i64 (txs its (i + 1)).length
def endsL (its : Nat → It) (k : Nat) : List Value := (List.range k).map (endV its)
theorem endsL_succ (its : Nat → It) (k : Nat) : endsL its (k + 1) = endsL its k ++ [endV its k] := by simp [endsL, List.range_succ]
theorem endsL_get (its : Nat → It) (k i : Nat) (h : i < k) : (endsL its k)[i]? = some (endV its i) := by simp [endsL, h]
/- the first loop: what is written, and its ends -/
def CutR (B : Nat) (w0 : World) (h : Nat) (its : Nat → It) (k : Nat) (e : Value) (wr : World) : Prop :=
  wr.ownsRow B 3 1 e k (endsL its k) ∧ Wr (Ke B e) wr h (txs its k) ∧ Keep (· < B) w0 wr
theorem cut_start {B : Nat} {w0 w : World} (its : Nat → It) (hB : B ≤ w.heap.size) (hk : Keep (· < B) w0 w) : CutR B w0 w.heap.size its 0 (.slice none 0 0) (w.alloc (.cells #[.slice none 0 0] 27)) :=
  ⟨World.ownsRow_nil _ _ _ _, Wr.new (fun k hk => hk.elim (fun h => by omega) (fun h => by simp [Value.ownBlock] at h)), hk.alloc _⟩
theorem cut_text {B : Nat} {w0 : World} {h : Nat} {its : Nat → It} {k : Nat} {e : Value} {wr : World} (hR : CutR B w0 h its k e wr) (hl : (txs its k).length + (its k).s.length ≤ 1099511627770) :
    Calls Try.prog 11 #[.pointer (some ⟨h, 0, none⟩), .slice (some ⟨wr.heap.size, 0, none⟩) 1 1] (wr.alloc (.cells #[.string (bs (its k).s)] 9)) fun v w' => v = .returned (.tuple #[]) ∧
      w'.ownsRow B 3 1 e k (endsL its k) ∧ Wr (Ke B e) w' h (txs its (k + 1)) ∧ Keep (· < B) w0 w' := by
  refine (text_call hR.2.1 (its k).s _ rfl hl).mono ?_
  rintro v w' ⟨h1, h2, h3⟩
  exact ⟨h1, owns_keep hR.1 h3 (fun k hk => Or.inr hk), h2, hR.2.2.trans (h3.mono fun k hk _ => Or.inl hk)⟩
theorem cut_end {B : Nat} {w0 w : World} {h : Nat} {its : Nat → It} {k : Nat} {e : Value} (h1 : w.ownsRow B 3 1 e k (endsL its k)) (h2 : Wr (Ke B e) w h (txs its (k + 1))) (h3 : Keep (· < B) w0 w) (hB : B ≤ w.heap.size) (hk : k ≤ 60) (x : Int) (hx : x = (txs its (k + 1)).length) :
    ∃ g cap w', (Builtin.append_ #[48, 48] 48 #[e, .slice (some ⟨w.heap.size, 0, none⟩) 1 1]).run Try.prog (w.alloc (.cells #[.int .i64 x] 3)) = .ok (.slice (some ⟨g, 0, none⟩) (k + 1) cap) w' ∧ CutR B w0 h its (k + 1) (.slice (some ⟨g, 0, none⟩) (k + 1) cap) w' := by
  subst hx
  obtain ⟨g, cap, w', hr, ho, hw, hK⟩ := app_ends h2 h1 hB (((txs its (k + 1)).length : Nat) : Int) (by omega)
  exact ⟨g, cap, w', hr, by rw [endsL_succ]; exact ho, hw, h3.trans hK⟩
set_option maxHeartbeats 1000000 in
set_option maxRecDepth 100000 in
theorem cut_any (its : Nat → It) (v : Value) (len c : Nat) (w : World) (hI : Items w v its len) (hc : c < 65536) :
    Calls Try.prog 6 #[v, .int .u16 c] w fun e w' => e = .returned (.bool true) ∧ Below w.heap.size w w' := by
  have HG : Hid (∀ W, Below w.heap.size w W → Calls Try.prog 8 #[v] W fun e w' => e = .returned (.bool (isGreat its len)) ∧ W = w') := fun W hW => great_any its v len W (hI.below hW)
  cases hg : isGreat its len
  · rw [hg] at HG
    unfold isGreat at hg
    rw [Bool.or_eq_false_iff] at hg
    have hlen : len ≤ 60 := by have := of_decide_eq_false hg.1; omega
    have hs := longs_false hg.2
    have HS := Lib.hid hs
    clear hg hs
    obtain ⟨-, ad, cap, rfl, ha⟩ := hI
    have HA := Lib.hid ha
    clear ha
    go_enter Try.func6, Try.ntmps6
    go_wp2_with fail
    refine (alive_any _).mono ?_
    rintro e w1 ⟨rfl, B1⟩
    have HB1 := Lib.hid B1
    clear B1
    go_wp2_with fail
    refine (HG.out _ HB1.out).mono ?_
    rintro e w2 ⟨rfl, rfl⟩
    go_wp2
    go_loopw [6, 7] (fun e i wr => ∃ k : Nat, k ≤ len ∧ i = .int .i64 k ∧ Hid (CutR w.heap.size w w1.heap.size its k e wr)) (fun _ i _ => len - (intOf i).toNat)
    case atStart => exact ⟨0, by omega, rfl, cut_start its HB1.out.size (Keep.of_below HB1.out fun k hk _ => hk)⟩
    case round =>
      obtain ⟨k, hk, rfl, hR⟩ := hrel
      by_cases hlt : k < len
      · obtain ⟨b, o, rfl, hb, hcc⟩ := HA.out (by omega)
        have ck := (hcc k hlt).2 3 (by omega)
        clear hcc
        rw [show itc (its k) 3 = .string (bs (its k).s) from rfl] at ck
        have ck2 := hR.out.2.2.cell hb ck
        have hT := cut_text hR.out (by have := txs_le its k (fun i hi => HS.out i (by omega)); have := HS.out k hlt; omega)
        generalize bs (its k).s = sk at ck2 hT
        clear ck
        have zk : (0 : Int) ≤ (k : Int) := by omega
        have yk : (k : Int) < (len : Int) := by omega
        go_wp2_with fail
        refine hT.mono ?_
        rintro e w3 ⟨rfl, t1, t2, t3⟩
        have T := Lib.hid (And.intro t1 (And.intro t2 t3))
        clear t1 t2 t3
        go_wp2_with fail
        refine (wstr_any T.out.2.1).mono ?_
        rintro e w4 ⟨rfl, rfl⟩
        have hz := bs_size (txs its (k + 1))
        generalize bs (txs its (k + 1)) = sb at hz ⊢
        obtain ⟨g, cp, w5, hr, hR5⟩ := cut_end T.out.1 T.out.2.1 T.out.2.2 T.out.2.2.size (by omega) (sb.size : Int) (by rw [hz])
        have H5 := Lib.hid hR5
        clear hz hR5
        go_wp2_with (at_builtin; refine wpList_append_run rfl (.tmp 31) (.tmp 34) 48 48 rfl _ _ _ _ rfl rfl hr ?_)
        go_roundw
        case rel => exact ⟨k + 1, by omega, by go_num, H5⟩
        case measure => simp [intOf]; omega
      · have ek : k = len := by omega
        subst ek
        have hL := txs_le its k (fun i hi => HS.out i hi)
        generalize hLe : txs its k = L at hL
        have HLe := Lib.hid hLe
        clear hlt hLe
        obtain ⟨adE, cpE, hE⟩ := owns_shape hR.out.1
        subst hE
        have HW2 : Hid (Wr (Ke w.heap.size (.slice adE k cpE)) wr w1.heap.size L) := by have := hR.out.2.1; rw [HLe.out] at this; exact this
        go_wp2_with fail
        refine (wstr_any HW2.out).mono ?_
        rintro e2 w4 ⟨rfl, rfl⟩
        have hz := bs_size L
        have q1 : (c : Int).tmod ((L.length : Int) + 1) = ((c % (L.length + 1) : Nat) : Int) := by rw [Int.tmod_eq_emod_of_nonneg (by omega)]; exact (Int.natCast_emod c (L.length + 1)).symm
        have q2 : c % (L.length + 1) ≤ L.length := by have := Nat.mod_lt c (show 0 < L.length + 1 by omega); omega
        have hx := bs_extract L 0 (c % (L.length + 1))
        rw [List.drop_zero, Nat.sub_zero] at hx
        generalize c % (L.length + 1) = a at q1 q2 hx
        have HN : Hid (∀ W, Calls Try.prog 17 #[.string (bs (L.take a))] W fun e w' => ∃ r, e = .returned (.pointer (some ⟨r, 0, none⟩)) ∧ W.heap.size ≤ r ∧ Rd w' r (L.take a) 0 0 ∧ Below W.heap.size W w') := fun W => new_any (L.take a) W (by rw [List.length_take]; omega)
        rw [← hx] at HN
        clear hx
        rw [← hz] at q1 q2
        generalize bs L = sb at hz q1 q2 HN ⊢
        have q3 : (sb.size : Int) + 1 ≤ 100000 := by omega
        have q4 : (a : Int) ≤ (sb.size : Int) := by omega
        have q5 : ¬ (sb.size : Int) + 1 = 0 := by omega
        have q6 : (c : Int) ≤ 65535 := by omega
        have Q2 := Lib.hid q2
        have HZ := Lib.hid hz
        clear q2 hz hc
        go_wp2_with fail
        refine (HN.out _).mono ?_
        rintro e3 w5 ⟨r, rfl, hr, hR5, hB5⟩
        have K5 : Hid (Keep (· < w.heap.size) w w5) := hR.out.2.2.trans (hB5.mono hR.out.2.2.size |> fun h => Keep.of_below h fun k hk _ => hk)
        have Own5 : Hid (w5.ownsRow w.heap.size 3 1 (.slice adE k cpE) k (endsL its k) ∧ ∀ g, (Value.slice adE k cpE).ownBlock = some g → g < wr.heap.size) :=
          ⟨owns_keep (K := fun _ => True) hR.out.1 (Keep.all hB5) (fun _ _ => trivial), fun g hg => (hR.out.1.lt g hg).2⟩
        have hrB : Hid (w.heap.size ≤ r ∧ wr.heap.size ≤ r) := ⟨Nat.le_trans hR.out.2.2.size hr, hr⟩
        have HR5 := Lib.hid hR5
        have HLz : Hid ((L.take a).length = a) := by
          show (L.take a).length = a
          have h1 := Q2.out
          rw [HZ.out] at h1
          rw [List.length_take]
          omega
        have HL3 : Hid (a ≤ (txs its k).length) := by
          show a ≤ (txs its k).length
          have h1 := Q2.out
          rw [HZ.out] at h1
          rw [HLe.out]
          exact h1
        have HTA : Hid (∀ W m, m < k → (txs its (m + 1)).length ≤ a → Rd W r (L.take a) (txs its m).length 0 → Calls Try.prog 19 #[.pointer (some ⟨r, 0, none⟩), .int .i64 500] W fun v w' => v = .returned (.string (bs (its m).s)) ∧ Rd w' r (L.take a) (txs its (m + 1)).length 0 ∧ Keep (fun x => x ≠ r) W w') := fun W m hm hle hW => by
          have hmm : (txs its m).length ≤ (txs its (m + 1)).length := by show _ ≤ (txs its m ++ tx (its m).s).length; rw [List.length_append]; omega
          have h := rtext_any 500 hW (by rw [HLz.out]; omega) (by rw [HLz.out]; omega)
          have h2 := cut_whole its m k a hm HS.out HL3.out hle
          rw [HLe.out] at h2
          rw [h2] at h
          exact h
        have HTB : Hid (∀ W m, m < k → (txs its m).length ≤ a → a < (txs its (m + 1)).length → Rd W r (L.take a) (txs its m).length 0 → Calls Try.prog 19 #[.pointer (some ⟨r, 0, none⟩), .int .i64 500] W fun v w' => v = .returned (.string ⟨#[]⟩) ∧ Rd w' r (L.take a) (txs its m).length 3 ∧ Keep (fun x => x ≠ r) W w') := fun W m hm hle hlt hW => by
          have h := rtext_any 500 hW (by rw [HLz.out]; omega) (by rw [HLz.out]; omega)
          have h2 := cut_short its m k a hm HS.out HL3.out hle hlt
          rw [HLe.out] at h2
          rw [h2] at h
          exact h
        clear hR5 hB5 hr hL hk HN
        go_wp2
        clear q1 q3 q4 q5 q6
        go_loopw [11, 12] (fun i got wr2 => ∃ m : Nat, m ≤ k ∧ i = .int .i64 m ∧ Hid (Rd wr2 r (L.take a) (txs its m).length 0 ∧ (txs its m).length ≤ a ∧ Keep (fun x => x ≠ r) w5 wr2)) (fun i _ _ => k - (intOf i).toNat)
        case atStart => exact ⟨0, by omega, rfl, HR5.out, Nat.zero_le _, Keep.refl _ _⟩
        case round =>
          obtain ⟨m, hm, rfl, hM⟩ := hrel
          by_cases hlt : m < k
          · obtain ⟨g, cp2, hg, hgB, hglt⟩ := Own5.out.1.form (by omega)
            cases hg
            have hgr : g ≠ r := by have := Own5.out.2 g rfl; have := hrB.out.2; omega
            have ce0 : w5.cell? ⟨g, m, none⟩ = some (endV its m) := by
              have := Own5.out.1.cells (g := g) rfl m (endV its m) (endsL_get its k m hlt)
              rw [Addr.add_mid, Nat.zero_add] at this
              exact this
            obtain ⟨b, o, rfl, hb, hcc⟩ := HA.out (by omega)
            have ck0 := (hcc m hlt).2 3 (by omega)
            clear hcc
            rw [show itc (its m) 3 = .string (bs (its m).s) from rfl] at ck0
            have ck1 := K5.out.cell hb ck0
            have hbr : b ≠ r := by have := hrB.out.1; omega
            have zm : (0 : Int) ≤ (m : Int) := by omega
            have ym : (m : Int) < (k : Int) := by omega
            unfold endV at ce0
            have hTA := HTA.out wr m hlt
            have hTB := HTB.out wr m hlt hM.out.2.1
            have hAle : (txs its (m + 1)).length ≤ a → Hid ((txs its (m + 1)).length ≤ a) := fun h => h
            clear ck0
            obtain ⟨en, hen⟩ : ∃ en, en = (txs its (m + 1)).length := ⟨_, rfl⟩
            rw [← hen] at ce0 hTA hTB hAle
            generalize bs (its m).s = sm at ck1 hTA
            by_cases hle : en ≤ a
            · have hA := hTA hle hM.out.1
              have b1 : (en : Int) ≤ (a : Int) := by omega
              have HEn := Lib.hid hen
              have HAle := hAle hle
              clear hTA hTB hle hen hAle hb hgB hglt
              go_wp2_with fail
              refine hA.mono ?_
              rintro e6 w6 ⟨rfl, g1, g2⟩
              have ck := (hM.out.2.2.trans g2).cell hbr ck1
              have ce := (hM.out.2.2.trans g2).cell hgr ce0
              have G := Lib.hid (And.intro g1 (hM.out.2.2.trans g2))
              clear g1 g2 ck1 ce0 hA
              go_wp2_with fail
              refine (err_any G.out.1).mono ?_
              rintro e7 w7 ⟨rfl, rfl⟩
              go_wp2
              go_roundw
              case rel => exact ⟨m + 1, by omega, by go_num, by rw [← HEn.out]; exact G.out.1, by have := HAle.out; have := HEn.out; omega, G.out.2⟩
              case measure => simp [intOf]; omega
            · have hB := hTB (by omega) hM.out.1
              have b1 : decide ((en : Int) ≤ (a : Int)) = false := by simp; omega
              have b2 : (a : Int) < (en : Int) := by omega
              clear hTA hTB hle hen hAle ck1 hb hgB hglt
              go_wp2_with fail
              refine hB.mono ?_
              rintro e6 w6 ⟨rfl, g1, g2⟩
              have ce := (hM.out.2.2.trans g2).cell hgr ce0
              have G := Lib.hid (And.intro g1 (K5.out.trans ((hM.out.2.2.trans g2).mono fun x hx _ => by have := hrB.out.1; omega)))
              clear g1 g2 ce0 hB
              go_wp2_with fail
              refine (alive_any _).mono ?_
              rintro e7 w7 ⟨rfl, B7⟩
              have G7 := Lib.hid (And.intro (G.out.1.keep (K := fun _ => True) (Keep.all B7) trivial) (G.out.2.trans (Keep.all B7)))
              clear B7 ce
              go_wp2_with fail
              refine (err_any G7.out.1).mono ?_
              rintro e8 w8 ⟨rfl, rfl⟩
              go_wp2
              go_ret
              exact ⟨rfl, G7.out.2.below (Nat.le_refl _)⟩
          · have em : m = k := by omega
            subst em
            have hpa : (txs its m).length = a := by have := hM.out.2.1; have := HL3.out; omega
            have hE : Hid (∀ W, Rd W r (L.take a) (txs its m).length 0 → Calls Try.prog 22 #[.pointer (some ⟨r, 0, none⟩)] W fun v w' => v = .returned (.int .i64 0) ∧ Below W.heap.size W w') := fun W hW => by
              have h := end_any hW
              have e0 : endOf (L.take a).length (txs its m).length 0 = 0 := by
                unfold endOf
                rw [if_neg (by simp), if_neg (by rw [HLz.out, hpa]; omega)]
              rw [e0] at h
              exact h
            have G := Lib.hid (And.intro hM.out.1 (K5.out.trans (hM.out.2.2.mono fun x hx _ => by have := hrB.out.1; omega)))
            clear hpa hlt
            go_wp2_with fail
            refine (alive_any _).mono ?_
            rintro e7 w7 ⟨rfl, B7⟩
            have G7 := Lib.hid (And.intro (G.out.1.keep (K := fun _ => True) (Keep.all B7) trivial) (G.out.2.trans (Keep.all B7)))
            clear B7
            go_wp2_with fail
            refine (hE.out _ G7.out.1).mono ?_
            rintro e8 w8 ⟨rfl, B8⟩
            have G8 := Lib.hid (G7.out.2.trans (Keep.all B8))
            clear B8
            go_wp2
            go_ret
            exact ⟨rfl, G8.out.below (Nat.le_refl _)⟩
  · rw [hg] at HG
    clear hI hg
    go_enter Try.func6, Try.ntmps6
    go_wp2_with fail
    refine (alive_any _).mono ?_
    rintro e w1 ⟨rfl, B1⟩
    have HB1 := Lib.hid B1
    clear B1
    go_wp2_with fail
    refine (HG.out _ HB1.out).mono ?_
    rintro e w2 ⟨rfl, rfl⟩
    go_wp2_with fail
    refine (alive_any _).mono ?_
    rintro e w3 ⟨rfl, B3⟩
    have HB3 := Lib.hid (HB1.out.trans (B3.mono HB1.out.size))
    clear B3
    go_wp2
    go_ret
    exact ⟨rfl, HB3.out⟩
end Go.Proofs.Ytchdhpnklnfplaa
