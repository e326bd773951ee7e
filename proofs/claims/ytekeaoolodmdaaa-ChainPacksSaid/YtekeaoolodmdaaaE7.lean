import Derived.Test.YtekeaoolodmdaaaE6
/- A copy made; bytes added behind pieces. -/
namespace Go.Proofs.Ytekeaoolodmdaaa
set_option maxRecDepth 100000
open Go.RowKit
attribute [local go_sem] run_store_complex
set_option maxHeartbeats 400000 in
theorem copyof_any (p n : Nat) (w : World) : Calls Try.prog 52 #[.int .i64 (p : Int), .int .i64 (n : Int)] w fun e w' => e = .returned (pv ⟨p, n, []⟩) ∧ Below w.heap.size w w' := by
  have f1 : floatOfInt .f64 (p : Int) = FB (p : Int) := rfl
  have f2 : floatOfInt .f64 (n : Int) = FB (n : Int) := rfl
  have e0 : bs [] = ⟨#[]⟩ := rfl
  unfold pv cpv
  dsimp only
  rw [e0]
  generalize FB (p : Int) = a at *
  generalize FB (n : Int) = b at *
  go_enter Try.func52, Try.ntmps52
  go_wp2
  exact bodyPost_ret (v := .agg #[.complex .f64 a b, .string ⟨#[]⟩]) (results_cell_row rfl _ _ _ _ _ _ _ rfl (heap_alloc_new _ _) Try.underlying76 rfl (by kernel_rfl)) rfl ⟨rfl, (Below.refl _ _).alloc (Nat.le_refl _) _⟩
set_option maxHeartbeats 400000 in
theorem addbytes_any {B : Nat} {v : Value} {l : List Pz} {w : World} (s : List UInt8) (h : OwnZ w B v l) (hB : B ≤ w.heap.size) (hn : l.length + 1 ≤ 100000) (hs : s.length ≤ 1000000) :
    Calls Try.prog 51 #[v, .string (bs s)] w fun e w' => ∃ v', e = .returned v' ∧ OwnZ w' B v' (l ++ rw' s) ∧ Below B w w' := by
  by_cases c : s = []
  · subst c
    have e0 : bs [] = ⟨#[]⟩ := rfl
    have e1 : l ++ rw' [] = l := by simp [rw']
    rw [e1, e0]
    have H := Lib.hid h
    clear h hs hn
    go_enter Try.func51, Try.ntmps51
    go_wp2
    go_ret
    exact ⟨_, rfl, H.out, Below.refl _ _⟩
  · have e1 : l ++ rw' s = l ++ [⟨0, 0, s⟩] := by unfold rw'; rw [if_neg c]
    rw [e1]
    have ht : (bs s).toList.isEmpty = false := by rw [Lib.toList_data]; simpa [bs] using c
    have C1 : Hid (∀ W, _) := Lib.hid (clone_any (bs s) (hs := by rw [bs_size]; omega))
    have A1 : Hid (∀ W, OwnZ W B v l → B ≤ W.heap.size → ∃ g cap w', (Builtin.append_ #[59, 59] 59 #[v, .slice (some ⟨W.heap.size, 0, none⟩) 1 1]).run Try.prog (W.alloc (.cells #[.complex .f64 0 0, .string (bs s)] 76)) = .ok (.slice (some ⟨g, 0, none⟩) (l.length + 1) cap) w' ∧
      OwnZ w' B (.slice (some ⟨g, 0, none⟩) (l.length + 1) cap) (l ++ [⟨0, 0, s⟩]) ∧ Below B W w') := fun W h1 h2 => by
      have := app_z ⟨0, 0, s⟩ h1 h2 hn
      have e0 : cpv ⟨0, 0, s⟩ = .complex .f64 0 0 := by
        show Value.complex .f64 (FB 0) (FB 0) = _
        rw [FB_0]
      rw [e0] at this
      exact this
    have H := Lib.hid h
    generalize bs s = sb at *
    clear h hs hn c e1
    go_enter Try.func51, Try.ntmps51
    go_wp2_with fail
    refine (C1.out _).mono ?_
    rintro e w1 ⟨rfl, B1⟩
    obtain ⟨g, cap, w2, hr, hO, hL⟩ := A1.out w1 (H.out.all B1) (Nat.le_trans hB B1.size)
    have HO := Lib.hid hO
    have HL := Lib.hid ((B1.mono hB).trans hL)
    clear hO hL B1 A1 C1
    go_wp2_with (at_builtin; refine wpList_append_run rfl (.tmp 8) (.tmp 12) 59 59 rfl _ _ _ _ rfl rfl hr ?_)
    go_wp2
    go_ret
    exact ⟨_, rfl, HO.out, HL.out⟩
end Go.Proofs.Ytekeaoolodmdaaa
