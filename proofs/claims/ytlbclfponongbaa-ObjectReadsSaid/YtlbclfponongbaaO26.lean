import Derived.Test.YtlbclfponongbaaO25
/- The writer's ids, many at once. -/
namespace Go.Proofs.Ytlbclfponongbaa
open Go.RowKit Classical
set_option maxHeartbeats 1000000 in
set_option maxRecDepth 100000 in
theorem wids_any {K : Nat → Prop} {w : World} {h : Nat} {l : List UInt8} (p : Nat → Nat → UInt8) (n : Nat) (v : Value) (hw : Wr K w h l) (hR : Row w v 32 (pc p) n) (hK : 0 < n → ∀ g o m cap, v = .slice (some ⟨g, o, none⟩) m cap → K g) (hn : n ≤ 1000) (hl : l.length ≤ 1000000) :
    Calls Try.prog 30 #[.pointer (some ⟨h, 0, none⟩), v] w fun e w' => e = .returned (.tuple #[]) ∧ Wr K w' h (l ++ pb p n) ∧ Keep K w w' := by
  obtain ⟨ad, cap, rfl, ha⟩ := row_addr hR
  have HA := Lib.hid ha
  have HK := Lib.hid hK
  have W0 : Hid (Wr K w h (l ++ pb p 0)) := by show Wr K w h (l ++ []); rw [List.append_nil]; exact hw
  clear ha hK hR hw
  go_enter Try.func30, Try.ntmps30
  go_wp2
  go_loopw [10] (fun i wr => ∃ k : Nat, k ≤ n ∧ i = .int .i64 k ∧ Hid (Wr K wr h (l ++ pb p k)) ∧ Hid (Keep K w wr)) (fun i _ => n - (intOf i).toNat)
  case atStart => exact ⟨0, Nat.zero_le _, rfl, W0, Keep.refl _ _⟩
  case round =>
    obtain ⟨k, hk, rfl, hW, hKp⟩ := hrel
    by_cases hlt : k < n
    · obtain ⟨b, o, rfl, hb, hc0⟩ := HA.out (by omega)
      have ck := (hc0.keep hKp.out (HK.out (by omega) _ _ _ _ rfl)).idk k hlt
      have zk : (0 : Int) ≤ (k : Int) := by omega
      have yk : (k : Int) < (n : Int) := by omega
      have HLT := Lib.hid hlt
      have hw2 := (hW.out.alloc (.cells (arr 32 (bv (p k))) 35)).drew
      obtain ⟨v0, ad0, n0, cap0, w', h1, hr, h2, hW', hK'⟩ := app_blk hw2 (idL (p k)) wr.heap.size 35 32 32 (0, 0) (by rw [idL_length, List.length_append, pb_len]; omega) (by rw [heap_drew, heap_alloc_new, idL_arr]) (idL_length (p k)).symm
      have C1 := cell_of_one h1
      have C2 := cell_of_one h2
      have F2 := free_of_one h2
      have R := Lib.hid (And.intro hW' (hKp.out.trans (((Keep.refl K wr).alloc _).drew.trans hK')))
      have hn2 : n ≤ 1000 := hn
      clear hW' hK' hw2 h1 h2 hlt hW hKp hc0 hb
      go_upto_region 4 with (first | (refine wpList_val rfl _ _ (ex_load 35 (.tmp 12) rfl b (o + k * 32) 32 (bv (p k)) rfl Try.underlying35 rfl sz30 ck) ?_) | (refine wpList_store_blk rfl 35 (.tmp 5) (.tmp 13) rfl wr.heap.size 32 (bv (p k)) (bv fun _ => 0) rfl rfl 35 (Blk.newAt _ (heap_alloc_new _ _) rfl) sz30 (fun _ _ => rfl) ?_))
      rw [World.setRow_alloc_new]
      clear ck
      generalize wr.alloc (.cells (arr 32 (bv (p k))) 35) = w2 at C1 hr ⊢
      generalize wr.heap.size = z at hr ⊢
      go_region_law (refine step_append_run rfl (.tmp 18) (.tmp 19) 53 53 rfl v0 (.slice (some ⟨z, 0, none⟩) 32 32) _ _ rfl rfl hr ?_)
      all_goals go_wp2
      all_goals go_roundw
      all_goals first | exact ⟨k + 1, HLT.out, by go_num, by show Wr K _ h (l ++ (pb p k ++ idL (p k))); rw [← List.append_assoc]; exact R.out.1, R.out.2⟩ | (simp [intOf]; have := HLT.out; omega)
    · have ek : k = n := by omega
      subst ek
      have yk : (k : Int) ≤ (k : Int) := by omega
      clear hlt
      go_wp2
      go_end0
      exact ⟨rfl, hW.out, hKp.out⟩
end Go.Proofs.Ytlbclfponongbaa
