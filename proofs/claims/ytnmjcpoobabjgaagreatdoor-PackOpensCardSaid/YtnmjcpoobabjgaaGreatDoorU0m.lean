import Derived.Test.YtnmjcpoobabjgaaGreatDoorO13m
import Derived.Laws.CopyRow
import Derived.Laws.MakeOwn
set_option linter.unusedVariables false
set_option linter.unusedSimpArgs false
/- Room made for entries, entries copied, ids appended to an empty list. -/
namespace Go.Proofs.YtnmjcpoobabjgaaGreatDoor
open Go.RowKit Classical
def zE : Ent := ⟨[], 0, fun _ => 0⟩
def er (es : Nat → Ent) (n i : Nat) : Ent := if i < n then es i else zE
theorem ex_append {o : Oper} {a : Act} {w w' : World} (x y : Operand) (t u : TypeId) (hop : o.op = .call { callee := .builtin .append, args := #[x, y], argTypes := #[t, u] }) {v vx vy : Value} (hx : a.eval x = vx) (hy : a.eval y = vy)
    (hr : (Builtin.append_ #[t, u] o.type #[vx, vy]).run Tryz.prog w = .ok v w') : (execOp a.eval o).run Tryz.prog w = .ok (.value v) w' := by
  simp [execOp, hop, resolve, invoke, builtin, hx, hy, hr, Result.andThen]
/- the block of ids of the call's own -/
end Go.Proofs.YtnmjcpoobabjgaaGreatDoor
/- The document's answers: numbers, texts, ids. -/
namespace Go.Proofs.YtnmjcpoobabjgaaGreatDoor
open Go.RowKit Classical
theorem eb_le (e : Ent) (h : e.name.length ≤ 32) : (eb e).length ≤ 100 := by
 unfold eb
 have h1 := dg_le6 (clamp_le e.kind)
 have h2 := dg_le6 (clamp_le (e.name.length : Int))
 rw [List.length_append, List.length_append, idL_length, tx_len]
 omega
theorem clamp_small (n : Nat) (h : n ≤ 1099511627775) : clamp (n : Int) = n := by unfold clamp; omega
theorem tb_le (es : Nat → Ent) (k : Nat) (h : ∀ i, i < k → (es i).name.length ≤ 32) : (tb es k).length ≤ 100 * k := by
 induction k with
 | zero => exact Nat.le_refl _
 | succ k ih =>
  have h1 := ih (fun i hi => h i (by omega))
  have h2 := eb_le (es k) (h k (by omega))
  show (tb es k ++ eb (es k)).length ≤ _
  rw [List.length_append]; omega
theorem cv_parts {w : World} {z : Nat} {t : Nat → UInt8} {v : Value} {s : List UInt8} (h : Blk w z 134 34 (cv t v s)) : w.cell? ⟨z, 32, none⟩ = some v ∧ w.cell? ⟨z, 33, none⟩ = some (.string (bs s)) ∧ At w z 0 32 (bv t) := by
 refine ⟨h.cell 32 (by omega), h.cell 33 (by omega), h.at0.part 0 32 _ (by omega) fun j hj => ?_⟩
 unfold cv
 rw [if_pos (by omega), Nat.zero_add]
 rfl
structure Tl (w0 : World) (z : Nat) (f : Nat → Value) (w : World) : Prop where
 keep : Below w0.heap.size w0 w
 blk : Blk w z 134 34 f
theorem Tl.step {w0 : World} {z : Nat} {f : Nat → Value} {w w' : World} (h : Tl w0 z f w) (hb : Below w.heap.size w w') : Tl w0 z f w' := ⟨h.keep.trans (hb.mono h.keep.size), h.blk.below hb h.blk.lt⟩
theorem Tl.alloc {w0 : World} {z : Nat} {f : Nat → Value} {w : World} (h : Tl w0 z f w) (o : Obj) : Tl w0 z f (w.alloc o) := h.step ((Below.refl _ _).alloc (Nat.le_refl _) o)
theorem Tl.start (w : World) (f : Nat → Value) : Tl w w.heap.size f (w.alloc (.cells (arr 34 f) 134)) := ⟨(Below.refl _ _).alloc (Nat.le_refl _) _, Blk.newAt _ (heap_alloc_new _ _) rfl⟩
theorem ex_fieldP {P : Program} {o : Oper} {a : Act} {w : World} {ty : TypeId} {k q : Nat} (hF : HasField P ty k q) (x : Operand) (ho : o.op = .fieldAddr ty x k) (b p : Nat) (hx : a.eval x = .pointer (some ⟨b, p, none⟩)) (r : Nat) (hr : p + q = r) :
  (execOp a.eval o).run P w = .ok (.value (.pointer (some ⟨b, r, none⟩))) w := hr ▸ ex_field hF x ho b p hx
theorem conv_one (W : World) (b : Nat) (x : Int) (d : UInt8) (hx : x = d.toNat) (hc : W.cell? ⟨b, 0, none⟩ = some (.int .u8 x)) : (convert 63 9 (.slice (some ⟨b, 0, none⟩) 1 1)).run Tryz.prog W = .ok (.string (bs [d])) W := by
 subst hx
 exact run_convert_bytes_back (P := Tryz.prog) W 63 9 5 ⟨b, 0, none⟩ 1 [d] t25 t5 t9 (fun j hj => by
  obtain rfl : j = 0 := by simpa using hj
  rw [Addr.add_mid]
  exact hc)
set_option maxRecDepth 100000 in
theorem ref_low (n : Nat) (w : World) (hn : n < 128) : Calls Tryz.prog 57 #[.int .i64 n] w fun e w' => e = .returned (.string (bs (dg n))) ∧ Below w.heap.size w w' := by
 rw [dg_low hn]
 have hc : ∀ W b, W.cell? ⟨b, 0, none⟩ = some (.int .u8 (n : Int)) → (convert 63 9 (.slice (some ⟨b, 0, none⟩) 1 1)).run Tryz.prog W = .ok (.string (bs [UInt8.ofNat n])) W := fun W b h => conv_one W b n _ (by rw [ofNat_toNat_small (by omega)]) h
 have c1 : (n : Int) < 128 := by omega
 generalize bs [UInt8.ofNat n] = sb at hc ⊢
 go_enter Tryz.func57, Tryz.ntmps57
 go_wp2
 go_ret
 exact ⟨rfl, (Below.refl _ _).alloc (Nat.le_refl _) _⟩
set_option maxHeartbeats 1000000 in
set_option maxRecDepth 100000 in
theorem ref_high (n : Nat) (w : World) (hn : n ≤ 1099511627775) (h : ¬ n < 128) (IH : ∀ w : World, Calls Tryz.prog 57 #[.int .i64 (n / 128 : Nat)] w fun e w' => e = .returned (.string (bs (dg (n / 128)))) ∧ Below w.heap.size w w') :
  Calls Tryz.prog 57 #[.int .i64 n] w fun e w' => e = .returned (.string (bs (dg n))) ∧ Below w.heap.size w w' := by
 have e1 : (n : Int).tmod 128 = (n : Int) % 128 := Int.tmod_eq_emod_of_nonneg (by omega)
 have e2 : (n : Int).tdiv 128 = ((n / 128 : Nat) : Int) := by rw [Int.tdiv_eq_ediv_of_nonneg (by omega)]; omega
 have HC : Hid (∀ W b, W.cell? ⟨b, 0, none⟩ = some (.int .u8 ((n : Int) % 128 + 128)) → (convert 63 9 (.slice (some ⟨b, 0, none⟩) 1 1)).run Tryz.prog W = .ok (.string (bs [UInt8.ofNat (n % 128 + 128)])) W) := fun W b h => conv_one W b _ _ (by rw [ofNat_toNat_small (by omega)]; omega) h
 have hap : bs [UInt8.ofNat (n % 128 + 128)] ++ bs (dg (n / 128)) = bs (dg n) := by rw [bs_append, dg_high h]; rfl
 have hsz : ¬ 9223372036854775807 < (bs [UInt8.ofNat (n % 128 + 128)]).size + (bs (dg (n / 128))).size := by
  rw [bs_size, bs_size]
  have := dg_le (n / 128) 0 (by omega) (by omega)
  simp
  omega
 have w1 : IntKind.i64.wrap ((n : Int) % 128 + 128) = (n : Int) % 128 + 128 := IntWalk.i64_in _ (by omega)
 have w2 : IntKind.u8.wrap ((n : Int) % 128 + 128) = (n : Int) % 128 + 128 := by simp [IntKind.wrap, IntKind.signed, IntKind.bits]; omega
 have w3 : IntKind.i64.wrap ((n / 128 : Nat) : Int) = ((n / 128 : Nat) : Int) := IntWalk.i64_in _ (by omega)
 have HI := Lib.hid IH
 clear IH
 have c1 : decide ((n : Int) < 128) = false := by simp; omega
 have c2 : (n : Int) ≤ 1099511627775 := by omega
 clear h hn
 generalize bs [UInt8.ofNat (n % 128 + 128)] = q at HC hap hsz
 generalize bs (dg (n / 128)) = r at HI hap hsz
 generalize bs (dg n) = t at hap ⊢
 generalize n / 128 = m at e2 HI w3
 have hcv := HC.out
 clear HC
 go_enter Tryz.func57, Tryz.ntmps57
 go_wp2_with fail
 go_region_law (go_simp; go_at_call 57; refine (HI.out _).mono ?_; rintro e w1 ⟨rfl, B1⟩; have hcell := fun h => B1.cell (p := ⟨w.heap.size, 0, none⟩) h)
 ·rename_i w1 B1 hcell
  clear hcell
  go_wp2
  go_ret
  exact ⟨rfl, ((((Below.refl w.heap.size w).drew).alloc (Nat.le_refl _) _).trans (B1.mono (by simp)))⟩
 ·rename_i w1 B1 hcell
  clear hcell
  go_wp2
  go_ret
  exact ⟨rfl, ((((Below.refl w.heap.size w).drew).alloc (Nat.le_refl _) _).trans (B1.mono (by simp)))⟩
 ·rename_i w1 B1 hcell
  clear hcell
  go_wp2
  go_ret
  exact ⟨rfl, ((Below.refl w.heap.size w).drew.trans B1).alloc B1.size _⟩
theorem ref_nat : ∀ (n : Nat), n ≤ 1099511627775 → ∀ w, Calls Tryz.prog 57 #[.int .i64 n] w fun e w' => e = .returned (.string (bs (dg n))) ∧ Below w.heap.size w w' := by
 intro n
 induction n using Nat.strongRecOn with
 | _ n ih =>
  intro hn w
  by_cases h : n < 128
  ·exact ref_low n w h
  ·exact ref_high n w hn h (ih (n / 128) (by omega) (by omega))
set_option maxRecDepth 100000 in
theorem ref_neg (n : Int) (w : World) (hn : n < 0) : Calls Tryz.prog 57 #[.int .i64 n] w fun e w' => e = .returned (.string (bs (dg 0))) ∧ Below w.heap.size w w' := by
 rw [dg_low (by decide)]
 have hc : ∀ W b, W.cell? ⟨b, 0, none⟩ = some (.int .u8 0) → (convert 63 9 (.slice (some ⟨b, 0, none⟩) 1 1)).run Tryz.prog W = .ok (.string (bs [UInt8.ofNat 0])) W := fun W b h => conv_one W b 0 _ rfl h
 generalize bs [UInt8.ofNat 0] = sb at hc ⊢
 go_enter Tryz.func57, Tryz.ntmps57
 go_wp2
 go_ret
 exact ⟨rfl, (Below.refl _ _).alloc (Nat.le_refl _) _⟩
set_option maxHeartbeats 1000000 in
set_option maxRecDepth 100000 in
theorem ref_over (n : Int) (w : World) (hn : 1099511627775 < n) : Calls Tryz.prog 57 #[.int .i64 n] w fun e w' => e = .returned (.string (bs (dg 1099511627775))) ∧ Below w.heap.size w w' := by
 have HC : Hid (∀ W b, W.cell? ⟨b, 0, none⟩ = some (.int .u8 255) → (convert 63 9 (.slice (some ⟨b, 0, none⟩) 1 1)).run Tryz.prog W = .ok (.string (bs [UInt8.ofNat 255])) W) := fun W b h => conv_one W b _ _ rfl h
 have hap : bs [UInt8.ofNat 255] ++ bs (dg 8589934591) = bs (dg 1099511627775) := by rw [bs_append, dg_high (n := 1099511627775) (by omega)]; rfl
 have hsz : ¬ 9223372036854775807 < (bs [UInt8.ofNat 255]).size + (bs (dg 8589934591)).size := by
  rw [bs_size, bs_size]
  have := dg_le 8589934591 0 (by omega) (by omega)
  simp
  omega
 have HI := Lib.hid (ref_nat 8589934591 (by omega))
 have c1 : (0 : Int) ≤ n := by omega
 have u1 : IntKind.i64.wrap 255 = 255 := IntWalk.i64_in _ (by omega)
 have u2 : IntKind.u8.wrap 255 = 255 := IntWalk.u8_in _ (by omega)
 have u3 : IntKind.i64.wrap 8589934591 = 8589934591 := IntWalk.i64_in _ (by omega)
 generalize bs [UInt8.ofNat 255] = q at HC hap hsz
 generalize bs (dg 8589934591) = r at HI hap hsz
 generalize bs (dg 1099511627775) = t at hap ⊢
 have hcv := HC.out
 clear HC
 go_enter Tryz.func57, Tryz.ntmps57
 go_wp2_with fail
 go_region_law (go_simp; go_at_call 57; refine (HI.out _).mono ?_; rintro e w1 ⟨rfl, B1⟩; have hcell := fun h => B1.cell (p := ⟨w.heap.size, 0, none⟩) h)
 ·rename_i w1 B1 hcell
  clear hcell
  go_wp2
  go_ret
  exact ⟨rfl, ((((Below.refl w.heap.size w).drew).alloc (Nat.le_refl _) _).trans (B1.mono (by simp)))⟩
 ·rename_i w1 B1 hcell
  clear hcell
  go_wp2
  go_ret
  exact ⟨rfl, ((((Below.refl w.heap.size w).drew).alloc (Nat.le_refl _) _).trans (B1.mono (by simp)))⟩
 ·rename_i w1 B1 hcell
  clear hcell
  go_wp2
  go_ret
  exact ⟨rfl, ((Below.refl w.heap.size w).drew.trans B1).alloc B1.size _⟩
theorem refnum_any (n : Int) (w : World) : Calls Tryz.prog 57 #[.int .i64 n] w fun e w' => e = .returned (.string (bs (dg (clamp n)))) ∧ Below w.heap.size w w' := by
 by_cases h0 : n < 0
 ·rw [show clamp n = 0 from by unfold clamp; omega]
  exact ref_neg n w h0
 ·by_cases h1 : 1099511627775 < n
  ·rw [show clamp n = 1099511627775 from by unfold clamp; omega]
   exact ref_over n w h1
  ·obtain ⟨m, rfl⟩ : ∃ m : Nat, n = m := ⟨n.toNat, by omega⟩
   rw [clamp_of (by omega) (by omega), Int.toNat_natCast]
   exact ref_nat m (by omega) w
theorem reftext_any (s : List UInt8) (w : World) (hs : s.length ≤ 1099511627775) : Calls Tryz.prog 58 #[.string (bs s)] w fun e w' => e = .returned (.string (bs (tx s))) ∧ Below w.heap.size w w' := by
 have H := refnum_any (s.length : Int) w
 have hz := bs_size s
 have hap : bs (dg (clamp (s.length : Int))) ++ bs s = bs (tx s) := by rw [bs_append]; rfl
 have hsz : ¬ 9223372036854775807 < (bs (dg (clamp (s.length : Int)))).size + (bs s).size := by
  rw [bs_size, bs_size]
  have := dg_le (clamp (s.length : Int)) 0 (by have := clamp_le (s.length : Int); omega) (by omega)
  omega
 rw [← hz] at H hap hsz
 generalize bs (dg (clamp ((bs s).size : Int))) = q at H hap hsz
 generalize bs s = sb at H hap hsz hz ⊢
 generalize bs (tx s) = t at hap ⊢
 clear hz hs
 go_enter Tryz.func58, Tryz.ntmps58
 go_wp2_with fail
 refine H.mono ?_
 rintro e w1 ⟨rfl, B1⟩
 go_wp2
 go_ret
 exact ⟨rfl, B1⟩
theorem conv_id (W : World) (b E : Nat) (f : Nat → UInt8) (hB : Blk W b E 32 (bv f)) : (convert 63 9 (.slice (some ⟨b, 0, none⟩) 32 32)).run Tryz.prog W = .ok (.string (bs (idL f))) W := by
 have h := run_convert_bytes_back (P := Tryz.prog) W 63 9 5 ⟨b, 0, none⟩ 32 (idL f) t25 t5 t9 (fun j hj => by
  rw [idL_length] at hj
  rw [Addr.add_mid, Nat.zero_add, hB.cell j hj]
  simp [bv, cb, idL])
 rw [idL_length] at h
 exact h
set_option maxRecDepth 100000 in
theorem refid_any (f : Nat → UInt8) (w : World) : Calls Tryz.prog 120 #[.agg (arr 32 (bv f))] w fun e w' => e = .returned (.string (bs (idL f))) ∧ Below w.heap.size w w' := by
 have hc := conv_id (w.alloc (.cells (arr 32 (bv f)) 37)) w.heap.size 37 f (Blk.newAt _ (heap_alloc_new _ _) rfl)
 generalize bs (idL f) = t at hc ⊢
 have ha : (arr 32 (bv f)).size = 32 := arr_size _ _
 go_enter Tryz.func120, Tryz.ntmps120
 go_wp2
 go_ret
 exact ⟨rfl, (Below.refl _ _).alloc (Nat.le_refl _) _⟩
theorem ent_keep {b p : Nat} {nm : ByteArray} {kd : Int} {f : Nat → UInt8} {w0 V V' : World} (h : V.cell? ⟨b, p, none⟩ = some (.string nm) ∧ V.cell? ⟨b, p + 1, none⟩ = some (.int .i64 kd) ∧ At V b (p + 2) 32 (bv f) ∧ Below w0.heap.size w0 V) (hb : b < w0.heap.size) (B : Below V.heap.size V V') :
  V'.cell? ⟨b, p, none⟩ = some (.string nm) ∧ V'.cell? ⟨b, p + 1, none⟩ = some (.int .i64 kd) ∧ At V' b (p + 2) 32 (bv f) ∧ Below w0.heap.size w0 V' := by
 have hl := Nat.lt_of_lt_of_le hb h.2.2.2.size
 exact ⟨(B.cell hl).trans h.1, (B.cell hl).trans h.2.1, h.2.2.1.below B hl, h.2.2.2.trans (B.mono h.2.2.2.size)⟩
set_option maxHeartbeats 2000000 in
set_option maxRecDepth 100000 in
theorem treebody_any (es : Nat → Ent) (v : Value) (n : Nat) (w : World) (hR : Row w v 34 (ec es) n) (hn : n ≤ 32) (hs : ∀ i, i < n → (es i).name.length ≤ 32) :
  Calls Tryz.prog 97 #[v] w fun e w' => e = .returned (.string (bs (tb es n))) ∧ Below w.heap.size w w' := by
 obtain ⟨ad, cap, rfl, ha⟩ := row_addr hR
 have HA := Lib.hid ha
 have HS := Lib.hid hs
 have B0 : Hid (Below w.heap.size w w) := Below.refl _ _
 clear ha hR hs
 go_enter Tryz.func97, Tryz.ntmps97
 go_wp2
 go_loopw [3, 4] (fun u i wr => ∃ k : Nat, k ≤ n ∧ i = .int .i64 k ∧ u = .string (bs (tb es k)) ∧ Hid (Below w.heap.size w wr)) (fun _ i _ => n - (intOf i).toNat)
 case atStart => exact ⟨0, Nat.zero_le _, rfl, rfl, B0⟩
 case round =>
  obtain ⟨k, hk, rfl, rfl, hL⟩ := hrel
  by_cases hlt : k < n
  ·obtain ⟨b, o, rfl, hb, hc0⟩ := HA.out (by omega)
   have hA := (hc0.below hL.out hb).ent k hlt
   have zk : (0 : Int) ≤ (k : Int) := by omega
   have yk : (k : Int) < (n : Int) := by omega
   have HLT := Lib.hid hlt
   have l0 := tb_le es k fun i hi => HS.out i (by omega)
   have l1 := dg_le6 (clamp_le (es k).kind)
   have l2 := dg_le6 (clamp_le ((es k).name.length : Int))
   have l3 := HS.out k hlt
   have N1 := Lib.hid (fun W => refnum_any (es k).kind W)
   have N2 := Lib.hid (fun W => reftext_any (es k).name W (by omega))
   have N3 := Lib.hid (fun W => refid_any (es k).id W)
   have p1 := bs_append (tb es k) (dg (clamp (es k).kind))
   have p2 := bs_append (tb es k ++ dg (clamp (es k).kind)) (tx (es k).name)
   have p3 := bs_append (tb es k ++ dg (clamp (es k).kind) ++ tx (es k).name) (idL (es k).id)
   have z1 : ¬ 9223372036854775807 < (bs (tb es k)).size + (bs (dg (clamp (es k).kind))).size := by rw [bs_size, bs_size]; omega
   have z2 : ¬ 9223372036854775807 < (bs (tb es k ++ dg (clamp (es k).kind))).size + (bs (tx (es k).name)).size := by rw [bs_size, bs_size, List.length_append, tx_len]; omega
   have z3 : ¬ 9223372036854775807 < (bs (tb es k ++ dg (clamp (es k).kind) ++ tx (es k).name)).size + (bs (idL (es k).id)).size := by rw [bs_size, bs_size, List.length_append, List.length_append, tx_len, idL_length]; omega
   rw [show tb es k ++ dg (clamp (es k).kind) ++ tx (es k).name ++ idL (es k).id = tb es (k + 1) from by show _ = tb es k ++ eb (es k); unfold eb; simp [List.append_assoc]] at p3
   clear l0 l1 l2 l3 hlt
   obtain ⟨a3, h3⟩ : ∃ a3, a3 = bs (tb es (k + 1)) := ⟨_, rfl⟩
   rw [← h3] at p3
   replace h3 := Lib.hid h3
   generalize bs (tb es k ++ dg (clamp (es k).kind) ++ tx (es k).name) = a2 at p2 p3 z3
   generalize bs (tb es k ++ dg (clamp (es k).kind)) = a1 at p1 p2 z2
   generalize bs (tb es k) = a0 at p1 z1 ⊢
   generalize bs (dg (clamp (es k).kind)) = d1 at N1 p1 z1
   generalize bs (tx (es k).name) = d2 at N2 p2 z2
   generalize bs (idL (es k).id) = d3 at N3 p3 z3
   have S0 : wr.drew.cell? ⟨b, o + k * 34, none⟩ = some (.string (bs (es k).name)) ∧ wr.drew.cell? ⟨b, o + k * 34 + 1, none⟩ = some (.int .i64 (es k).kind) ∧ At wr.drew b (o + k * 34 + 2) 32 (bv (es k).id) ∧ Below wr.heap.size wr wr.drew := ⟨hA 0 (by omega), hA 1 (by omega), (hA.part 2 32 _ (by omega) fun j _ => ev_id _ j), (Below.refl _ _).drew⟩
   have HB : Hid (b < wr.heap.size) := Nat.lt_of_lt_of_le hb hL.out.size
   generalize bs (es k).name = nm at N2 S0
   generalize (es k).kind = kd at N1 S0
   generalize (es k).id = f at N3 S0
   clear hA hc0 hb
   go_upto_region 5 with fail
   refine wp_region_noPanic ?_
   refine wp_region_held_drew (S := (fun V => V.cell? ⟨b, o + k * 34, none⟩ = some (.string nm) ∧ V.cell? ⟨b, o + k * 34 + 1, none⟩ = some (.int .i64 kd) ∧ At V b (o + k * 34 + 2) 32 (bv f) ∧ Below wr.heap.size wr V)) (by kernel_rfl) S0 (fun hHeld => ?_)
   refine wpAnyH_take (i := 0) (oi := ⟨some 11, .move (.tmp 3), 9, "ref.go:55", #[], none⟩) (v := ?_) rfl (by kernel_rfl) (by kernel_rfl) (by kernel_rfl) (fun _ _ _ h => h) (Or.inl ⟨by kernel_rfl, ?_⟩) (by assumption) ?_
   rotate_left 1
   ·(intro wS hSw; (try dsimp only at hSw); go_simp; try with_reducible rfl)
   try simp only [Act.put, tA, tZ, tS]
   refine wpAnyH_take (i := 1) (oi := ⟨some 12, .move (.tmp 0), 130, "ref.go:55", #[], none⟩) (v := ?_) rfl (by kernel_rfl) (by kernel_rfl) (by kernel_rfl) (fun _ _ _ h => h) (Or.inl ⟨by kernel_rfl, ?_⟩) (by assumption) ?_
   rotate_left 1
   ·(intro wS hSw; (try dsimp only at hSw); go_simp; try with_reducible rfl)
   try simp only [Act.put, tA, tZ, tS]
   refine wpAnyH_take (i := 2) (oi := ⟨some 13, .move (.tmp 4), 3, "ref.go:55", #[], none⟩) (v := ?_) rfl (by kernel_rfl) (by kernel_rfl) (by kernel_rfl) (fun _ _ _ h => h) (Or.inl ⟨by kernel_rfl, ?_⟩) (by assumption) ?_
   rotate_left 1
   ·(intro wS hSw; (try dsimp only at hSw); go_simp; try with_reducible rfl)
   try simp only [Act.put, tA, tZ, tS]
   refine wpAnyH_take (i := 3) (oi := ⟨some 14, .indexAddr 130 (.tmp 12) (.tmp 13), 0, "ref.go:55", #[⟨1, .data⟩, ⟨2, .data⟩], none⟩) (v := ?_) rfl (by kernel_rfl) (by kernel_rfl) (by kernel_rfl) (fun _ _ _ h => h) (Or.inl ⟨by kernel_rfl, ?_⟩) (by assumption) ?_
   rotate_left 1
   ·(intro wS hSw; (try dsimp only at hSw); go_simp; try with_reducible rfl)
   try simp only [Act.put, tA, tZ, tS]
   refine wpAnyH_take (i := 4) (oi := ⟨some 15, .fieldAddr 164 (.tmp 14) 1, 0, "ref.go:55", #[⟨3, .data⟩], none⟩) (v := ?_) rfl (by kernel_rfl) (by kernel_rfl) (by kernel_rfl) (fun _ _ _ h => h) (Or.inl ⟨by kernel_rfl, ?_⟩) (by assumption) ?_
   rotate_left 1
   ·(intro wS hSw; (try dsimp only at hSw); go_simp; try with_reducible rfl)
   try simp only [Act.put, tA, tZ, tS]
   refine wpAnyH_take (i := 5) (oi := ⟨some 16, .load 3 (.tmp 15), 3, "ref.go:55", #[⟨4, .data⟩], none⟩) (v := ?_) rfl (by kernel_rfl) (by kernel_rfl) (by kernel_rfl) (fun _ _ _ h => h) (Or.inl ⟨by kernel_rfl, ?_⟩) (by assumption) ?_
   rotate_left 1
   ·(intro wS hSw; (try dsimp only at hSw); go_simp; try with_reducible rfl)
   try simp only [Act.put, tA, tZ, tS]
   refine wpAnyH_take (i := 8) (oi := ⟨some 19, .move (.tmp 0), 130, "ref.go:55", #[], none⟩) (v := ?_) rfl (by kernel_rfl) (by kernel_rfl) (by kernel_rfl) (fun _ _ _ h => h) (Or.inl ⟨by kernel_rfl, ?_⟩) (by assumption) ?_
   rotate_left 1
   ·(intro wS hSw; (try dsimp only at hSw); go_simp; try with_reducible rfl)
   try simp only [Act.put, tA, tZ, tS]
   refine wpAnyH_take (i := 9) (oi := ⟨some 20, .move (.tmp 4), 3, "ref.go:55", #[], none⟩) (v := ?_) rfl (by kernel_rfl) (by kernel_rfl) (by kernel_rfl) (fun _ _ _ h => h) (Or.inl ⟨by kernel_rfl, ?_⟩) (by assumption) ?_
   rotate_left 1
   ·(intro wS hSw; (try dsimp only at hSw); go_simp; try with_reducible rfl)
   try simp only [Act.put, tA, tZ, tS]
   refine wpAnyH_take (i := 10) (oi := ⟨some 21, .indexAddr 130 (.tmp 19) (.tmp 20), 0, "ref.go:55", #[⟨8, .data⟩, ⟨9, .data⟩], none⟩) (v := ?_) rfl (by kernel_rfl) (by kernel_rfl) (by kernel_rfl) (fun _ _ _ h => h) (Or.inl ⟨by kernel_rfl, ?_⟩) (by assumption) ?_
   rotate_left 1
   ·(intro wS hSw; (try dsimp only at hSw); go_simp; try with_reducible rfl)
   try simp only [Act.put, tA, tZ, tS]
   refine wpAnyH_take (i := 11) (oi := ⟨some 22, .fieldAddr 164 (.tmp 21) 0, 0, "ref.go:55", #[⟨10, .data⟩], none⟩) (v := ?_) rfl (by kernel_rfl) (by kernel_rfl) (by kernel_rfl) (fun _ _ _ h => h) (Or.inl ⟨by kernel_rfl, ?_⟩) (by assumption) ?_
   rotate_left 1
   ·(intro wS hSw; (try dsimp only at hSw); go_simp; try with_reducible rfl)
   try simp only [Act.put, tA, tZ, tS]
   refine wpAnyH_take (i := 12) (oi := ⟨some 23, .load 9 (.tmp 22), 9, "ref.go:55", #[⟨11, .data⟩], none⟩) (v := ?_) rfl (by kernel_rfl) (by kernel_rfl) (by kernel_rfl) (fun _ _ _ h => h) (Or.inl ⟨by kernel_rfl, ?_⟩) (by assumption) ?_
   rotate_left 1
   ·(intro wS hSw; (try dsimp only at hSw); go_simp; try with_reducible rfl)
   try simp only [Act.put, tA, tZ, tS]
   refine wpAnyH_take (i := 15) (oi := ⟨some 26, .move (.tmp 0), 130, "ref.go:55", #[], none⟩) (v := ?_) rfl (by kernel_rfl) (by kernel_rfl) (by kernel_rfl) (fun _ _ _ h => h) (Or.inl ⟨by kernel_rfl, ?_⟩) (by assumption) ?_
   rotate_left 1
   ·(intro wS hSw; (try dsimp only at hSw); go_simp; try with_reducible rfl)
   try simp only [Act.put, tA, tZ, tS]
   refine wpAnyH_take (i := 16) (oi := ⟨some 27, .move (.tmp 4), 3, "ref.go:55", #[], none⟩) (v := ?_) rfl (by kernel_rfl) (by kernel_rfl) (by kernel_rfl) (fun _ _ _ h => h) (Or.inl ⟨by kernel_rfl, ?_⟩) (by assumption) ?_
   rotate_left 1
   ·(intro wS hSw; (try dsimp only at hSw); go_simp; try with_reducible rfl)
   try simp only [Act.put, tA, tZ, tS]
   refine wpAnyH_take (i := 17) (oi := ⟨some 28, .indexAddr 130 (.tmp 26) (.tmp 27), 0, "ref.go:55", #[⟨15, .data⟩, ⟨16, .data⟩], none⟩) (v := ?_) rfl (by kernel_rfl) (by kernel_rfl) (by kernel_rfl) (fun _ _ _ h => h) (Or.inl ⟨by kernel_rfl, ?_⟩) (by assumption) ?_
   rotate_left 1
   ·(intro wS hSw; (try dsimp only at hSw); go_simp; try with_reducible rfl)
   try simp only [Act.put, tA, tZ, tS]
   refine wpAnyH_take (i := 18) (oi := ⟨some 29, .fieldAddr 164 (.tmp 28) 2, 0, "ref.go:55", #[⟨17, .data⟩], none⟩) (v := ?_) rfl (by kernel_rfl) (by kernel_rfl) (by kernel_rfl) (fun _ _ _ h => h) (Or.inl ⟨by kernel_rfl, ?_⟩) (by assumption) ?_
   rotate_left 1
   ·(intro wS hSw; (try dsimp only at hSw); go_simp; try with_reducible rfl)
   try simp only [Act.put, tA, tZ, tS]
   refine wpAnyH_take (i := 19) (oi := ⟨some 30, .load 37 (.tmp 29), 37, "ref.go:55", #[⟨18, .data⟩], none⟩) rfl (by kernel_rfl) (by kernel_rfl) (by kernel_rfl) (fun _ _ _ h => h) (Or.inl ⟨by kernel_rfl, fun wS hSw => ex_load 37 (.tmp 29) rfl b (o + k * 34 + 2) 32 (bv f) rfl Tryz.underlying37 rfl sz30 hSw.2.2.1⟩) (by assumption) ?_
   try simp only [Act.put, tA, tZ, tS]
   refine wpAnyH_ready (rs := [6]) (by kernel_rfl) (by simp) ?_
   refine AllReadyH.cons (o := ⟨some 17, .call { callee := .value (Operand.func 57), args := #[.tmp 16], argTypes := #[3] }, 9, "ref.go:55", #[⟨5, .data⟩], none⟩) rfl (fun K hK => ?_) AllReadyH.nil
   go_simp
   refine (N1.out _).mono ?_
   rintro e w1 ⟨rfl, B1⟩
   have Sa6 := ent_keep S0 HB.out B1
   refine hK.out _ _ Sa6 (fun hHeld6 => ?_)
   clear hK K
   try simp only [Act.put, tA, tZ, tS]
   refine wpAnyH_take (i := 7) (oi := ⟨some 18, .binOp BinOp.add 9 (.tmp 11) (.tmp 17) 9, 9, "ref.go:55", #[⟨0, .data⟩, ⟨6, .data⟩], none⟩) (v := ?_) rfl (by kernel_rfl) (by kernel_rfl) (by kernel_rfl) (fun _ _ _ h => h) (Or.inl ⟨by kernel_rfl, ?_⟩) (by assumption) ?_
   rotate_left 1
   ·(intro wS hSw; (try dsimp only at hSw); go_simp; try with_reducible rfl)
   try simp only [Act.put, tA, tZ, tS]
   refine wpAnyH_ready (rs := [13]) (by kernel_rfl) (by simp) ?_
   refine AllReadyH.cons (o := ⟨some 24, .call { callee := .value (Operand.func 58), args := #[.tmp 23], argTypes := #[9] }, 9, "ref.go:55", #[⟨12, .data⟩, ⟨6, .chain⟩], none⟩) rfl (fun K hK => ?_) AllReadyH.nil
   go_simp
   refine (N2.out w1).mono ?_
   rintro e w2 ⟨rfl, B2⟩
   have Sa13 := ent_keep Sa6 HB.out B2
   refine hK.out _ _ Sa13 (fun hHeld13 => ?_)
   clear hK K
   try simp only [Act.put, tA, tZ, tS]
   refine wpAnyH_take (i := 14) (oi := ⟨some 25, .binOp BinOp.add 9 (.tmp 18) (.tmp 24) 9, 9, "ref.go:55", #[⟨7, .data⟩, ⟨13, .data⟩], none⟩) (v := ?_) rfl (by kernel_rfl) (by kernel_rfl) (by kernel_rfl) (fun _ _ _ h => h) (Or.inl ⟨by kernel_rfl, ?_⟩) (by assumption) ?_
   rotate_left 1
   ·(intro wS hSw; (try dsimp only at hSw); go_simp; try with_reducible rfl)
   try simp only [Act.put, tA, tZ, tS]
   refine wpAnyH_ready (rs := [20]) (by kernel_rfl) (by simp) ?_
   refine AllReadyH.cons (o := ⟨some 31, .call { callee := .value (Operand.func 120), args := #[.tmp 30], argTypes := #[37] }, 9, "ref.go:55", #[⟨19, .data⟩, ⟨13, .chain⟩], none⟩) rfl (fun K hK => ?_) AllReadyH.nil
   go_simp
   refine (N3.out w2).mono ?_
   rintro e w3 ⟨rfl, B3⟩
   have Sa20 := ent_keep Sa13 HB.out B3
   refine hK.out _ _ Sa20 (fun hHeld20 => ?_)
   clear hK K
   try simp only [Act.put, tA, tZ, tS]
   refine wpAnyH_take (i := 21) (oi := ⟨some 32, .binOp BinOp.add 9 (.tmp 25) (.tmp 31) 9, 9, "ref.go:55", #[⟨14, .data⟩, ⟨20, .data⟩], none⟩) (v := ?_) rfl (by kernel_rfl) (by kernel_rfl) (by kernel_rfl) (fun _ _ _ h => h) (Or.inl ⟨by kernel_rfl, ?_⟩) (by assumption) ?_
   rotate_left 1
   ·(intro wS hSw; (try dsimp only at hSw); go_simp; try with_reducible rfl)
   try simp only [Act.put, tA, tZ, tS]
   refine wpAnyH_take (i := 22) (oi := ⟨some 3, .assign (.tmp 32), 9, "ref.go:55", #[⟨21, .data⟩, ⟨20, .chain⟩, ⟨0, .phase⟩, ⟨1, .phase⟩, ⟨2, .phase⟩, ⟨3, .phase⟩, ⟨4, .phase⟩, ⟨5, .phase⟩, ⟨6, .phase⟩, ⟨7, .phase⟩, ⟨8, .phase⟩, ⟨9, .phase⟩, ⟨10, .phase⟩, ⟨11, .phase⟩, ⟨12, .phase⟩, ⟨13, .phase⟩, ⟨14, .phase⟩, ⟨15, .phase⟩, ⟨16, .phase⟩, ⟨17, .phase⟩, ⟨18, .phase⟩, ⟨19, .phase⟩, ⟨20, .phase⟩, ⟨21, .phase⟩], none⟩) (v := ?_) rfl (by kernel_rfl) (by kernel_rfl) (by kernel_rfl) (fun _ _ _ h => h) (Or.inl ⟨by kernel_rfl, ?_⟩) (by assumption) ?_
   rotate_left 1
   ·(intro wS hSw; (try dsimp only at hSw); go_simp; try with_reducible rfl)
   try simp only [Act.put, tA, tZ, tS]
   refine wpAnyH_done (by kernel_rfl) ?_ _
   refine NoPanic.normal ?_
   have L2 := Lib.hid (hL.out.trans (Sa20.2.2.2.mono hL.out.size))
   clear Sa6 Sa13 Sa20 S0 hHeld hHeld6 hHeld13 hHeld20 B1 B2 B3 hL
   go_wp2
   go_roundw
   case rel => exact ⟨k + 1, HLT.out, by go_num, by rw [h3.out], L2⟩
   case measure => simp [intOf]; have := HLT.out; omega
  ·have ek : n = k := by omega
   subst ek
   have yk : (n : Int) ≤ (n : Int) := by omega
   clear hlt
   go_wp2
   go_ret
   exact ⟨rfl, hL.out⟩
theorem tl_parts {w0 : World} {z : Nat} {t : Nat → UInt8} {v : Value} {s : List UInt8} {V : World} (h : Tl w0 z (cv t v s) V) : V.cell? ⟨z, 32, none⟩ = some v ∧ At V z 0 32 (bv t) ∧ Tl w0 z (cv t v s) V := ⟨(cv_parts h.blk).1, (cv_parts h.blk).2.2, h⟩
set_option maxHeartbeats 2000000 in
set_option maxRecDepth 100000 in
theorem combody_any (t : Nat → UInt8) (p : Nat → Nat → UInt8) (n : Nat) (s : List UInt8) (v : Value) (w : World) (hR : Row w v 32 (pc p) n) (hn : n ≤ 4) (hs : s.length ≤ 64) :
  Calls Tryz.prog 99 #[.agg (arr 34 (cv t v s))] w fun e w' => e = .returned (.string (bs (comB ⟨t, n, p, s⟩))) ∧ Below w.heap.size w w' := by
 obtain ⟨ad, cap, rfl, -⟩ := row_addr hR
 have R0 := Lib.hid hR
 have T0 := Lib.hid (Tl.start w (cv t (.slice ad n cap) s))
 have N1 := Lib.hid (fun W => refid_any t W)
 have N2 := Lib.hid (fun W => refnum_any (n : Int) W)
 have N3 := Lib.hid (fun W => reftext_any s W (by omega))
 have l1 := dg_le6 (show n ≤ 1099511627775 by omega)
 have l2 := dg_le6 (clamp_le (s.length : Int))
 have p1 := bs_append (idL t) (dg n)
 have z1 : ¬ 9223372036854775807 < (bs (idL t)).size + (bs (dg n)).size := by rw [bs_size, bs_size, idL_length]; omega
 have p2 := Lib.hid (fun k => bs_append (idL t ++ dg n ++ pb p k) (idL (p k)))
 have z2 : Hid (∀ k, k < n → ¬ 9223372036854775807 < (bs (idL t ++ dg n ++ pb p k)).size + (bs (idL (p k))).size) := fun k hk => by rw [bs_size, bs_size, List.length_append, List.length_append, idL_length, idL_length, pb_len]; omega
 have p3 := bs_append (idL t ++ dg n ++ pb p n) (tx s)
 have z3 : ¬ 9223372036854775807 < (bs (idL t ++ dg n ++ pb p n)).size + (bs (tx s)).size := by rw [bs_size, bs_size, List.length_append, List.length_append, idL_length, tx_len, pb_len]; omega
 rw [clamp_small n (by omega)] at N2
 have a0 : Hid (bs (idL t ++ dg n) = bs (idL t ++ dg n ++ pb p 0)) := by show _ = bs (idL t ++ dg n ++ []); rw [List.append_nil]
 have P3 := Lib.hid p3
 have Z3 := Lib.hid z3
 clear l1 l2 hR hs p3 z3
 go_enter Tryz.func99, Tryz.ntmps99
 go_upto_region 1 with fail
 change Code.wp _ _ _ _ (w.alloc (.cells (arr 34 (cv t (.slice ad n cap) s)) 134))
 generalize w.alloc (.cells (arr 34 (cv t (.slice ad n cap) s)) 134) = w1 at T0 ⊢
 generalize w.heap.size = z at T0 ⊢
 generalize bs (idL t) = a1 at N1 p1 z1
 generalize bs (dg n) = d1 at N2 p1 z1
 generalize hq : bs (idL t ++ dg n) = q1 at p1 a0
 clear hq
 refine wp_region_noPanic ?_
 refine wp_region_held_drew (S := (fun V => V.cell? ⟨z, 32, none⟩ = some (.slice ad n cap) ∧ At V z 0 32 (bv t) ∧ Tl w z (cv t (.slice ad n cap) s) V)) (by kernel_rfl) (tl_parts (T0.out.step (Below.refl _ _).drew)) (fun hHeld => ?_)
 refine wpAnyH_take (i := 0) (oi := ⟨some 5, .fieldAddr 134 (.tmp 1) 0, 0, "ref.go:62", #[], none⟩) (v := ?_) rfl (by kernel_rfl) (by kernel_rfl) (by kernel_rfl) (fun _ _ _ h => h) (Or.inl ⟨by kernel_rfl, ?_⟩) (by assumption) ?_
 rotate_left 1
 ·(intro wS hSw; (try dsimp only at hSw); go_simp; try with_reducible rfl)
 try simp only [Act.put, tA, tZ, tS]
 refine wpAnyH_take (i := 1) (oi := ⟨some 6, .load 37 (.tmp 5), 37, "ref.go:62", #[⟨0, .data⟩], none⟩) rfl (by kernel_rfl) (by kernel_rfl) (by kernel_rfl) (fun _ _ _ h => h) (Or.inl ⟨by kernel_rfl, fun wS hSw => ex_load 37 (.tmp 5) rfl z 0 32 (bv t) rfl Tryz.underlying37 rfl sz30 hSw.2.1⟩) (by assumption) ?_
 try simp only [Act.put, tA, tZ, tS]
 refine wpAnyH_take (i := 3) (oi := ⟨some 8, .fieldAddr 134 (.tmp 1) 1, 0, "ref.go:62", #[], none⟩) (v := ?_) rfl (by kernel_rfl) (by kernel_rfl) (by kernel_rfl) (fun _ _ _ h => h) (Or.inl ⟨by kernel_rfl, ?_⟩) (by assumption) ?_
 rotate_left 1
 ·(intro wS hSw; (try dsimp only at hSw); go_simp; try with_reducible rfl)
 try simp only [Act.put, tA, tZ, tS]
 refine wpAnyH_take (i := 4) (oi := ⟨some 9, .load 30 (.tmp 8), 30, "ref.go:62", #[⟨3, .data⟩], none⟩) (v := ?_) rfl (by kernel_rfl) (by kernel_rfl) (by kernel_rfl) (fun _ _ _ h => h) (Or.inl ⟨by kernel_rfl, ?_⟩) (by assumption) ?_
 rotate_left 1
 ·(intro wS hSw; (try dsimp only at hSw); go_simp; try with_reducible rfl)
 try simp only [Act.put, tA, tZ, tS]
 refine wpAnyH_take (i := 5) (oi := ⟨some 10, .call { callee := .builtin .len, args := #[.tmp 9], argTypes := #[30] }, 3, "ref.go:62", #[⟨4, .data⟩], none⟩) (v := ?_) rfl (by kernel_rfl) (by kernel_rfl) (by kernel_rfl) (fun _ _ _ h => h) (Or.inl ⟨by kernel_rfl, ?_⟩) (by assumption) ?_
 rotate_left 1
 ·(intro wS hSw; (try dsimp only at hSw); go_simp; try with_reducible rfl)
 try simp only [Act.put, tA, tZ, tS]
 refine wpAnyH_ready (rs := [2]) (by kernel_rfl) (by simp) ?_
 refine AllReadyH.cons (o := ⟨some 7, .call { callee := .value (Operand.func 120), args := #[.tmp 6], argTypes := #[37] }, 9, "ref.go:62", #[⟨1, .data⟩], none⟩) rfl (fun K hK => ?_) AllReadyH.nil
 go_simp
 refine (N1.out _).mono ?_
 rintro e w2 ⟨rfl, B2⟩
 have Sa2 := tl_parts ((T0.out.step (Below.refl _ _).drew).step B2)
 refine hK.out _ _ Sa2 (fun hHeld2 => ?_)
 clear hK K
 try simp only [Act.put, tA, tZ, tS]
 refine wpAnyH_ready (rs := [6]) (by kernel_rfl) (by simp) ?_
 refine AllReadyH.cons (o := ⟨some 11, .call { callee := .value (Operand.func 57), args := #[.tmp 10], argTypes := #[3] }, 9, "ref.go:62", #[⟨5, .data⟩, ⟨2, .chain⟩], none⟩) rfl (fun K hK => ?_) AllReadyH.nil
 go_simp
 refine (N2.out w2).mono ?_
 rintro e w3 ⟨rfl, B3⟩
 have Sa6 := tl_parts (Sa2.2.2.step B3)
 refine hK.out _ _ Sa6 (fun hHeld6 => ?_)
 clear hK K
 try simp only [Act.put, tA, tZ, tS]
 refine wpAnyH_take (i := 7) (oi := ⟨some 12, .binOp BinOp.add 9 (.tmp 7) (.tmp 11) 9, 9, "ref.go:62", #[⟨2, .data⟩, ⟨6, .data⟩], none⟩) (v := ?_) rfl (by kernel_rfl) (by kernel_rfl) (by kernel_rfl) (fun _ _ _ h => h) (Or.inl ⟨by kernel_rfl, ?_⟩) (by assumption) ?_
 rotate_left 1
 ·(intro wS hSw; (try dsimp only at hSw); go_simp; try with_reducible rfl)
 try simp only [Act.put, tA, tZ, tS]
 refine wpAnyH_take (i := 8) (oi := ⟨some 3, .assign (.tmp 12), 9, "ref.go:62", #[⟨7, .data⟩, ⟨6, .chain⟩, ⟨0, .phase⟩, ⟨1, .phase⟩, ⟨2, .phase⟩, ⟨3, .phase⟩, ⟨4, .phase⟩, ⟨5, .phase⟩, ⟨6, .phase⟩, ⟨7, .phase⟩], none⟩) (v := ?_) rfl (by kernel_rfl) (by kernel_rfl) (by kernel_rfl) (fun _ _ _ h => h) (Or.inl ⟨by kernel_rfl, ?_⟩) (by assumption) ?_
 rotate_left 1
 ·(intro wS hSw; (try dsimp only at hSw); go_simp; try with_reducible rfl)
 try simp only [Act.put, tA, tZ, tS]
 refine wpAnyH_done (by kernel_rfl) ?_ _
 refine NoPanic.normal ?_
 have T3 := Lib.hid Sa6.2.2
 clear Sa2 Sa6 hHeld hHeld2 hHeld6 B2 B3 T0 N1 N2 p1 z1
 have c32 := (tl_parts T3.out).1
 go_wp2
 go_loopw [3, 4] (fun u i wr => ∃ k : Nat, k ≤ n ∧ i = .int .i64 k ∧ u = .string (bs (idL t ++ dg n ++ pb p k)) ∧ Hid (Tl w z (cv t (.slice ad n cap) s) wr)) (fun _ i _ => n - (intOf i).toNat)
 case atStart => exact ⟨0, Nat.zero_le _, rfl, by rw [a0.out], T3⟩
 case round =>
  obtain ⟨k, hk, rfl, rfl, hT⟩ := hrel
  have d32 := (tl_parts hT.out).1
  by_cases hlt : k < n
  ·have zk : (0 : Int) ≤ (k : Int) := by omega
   have yk : (k : Int) < (n : Int) := by omega
   have HLT := Lib.hid hlt
   have N4 := Lib.hid (fun W => refid_any (p k) W)
   have p4 := p2.out k
   have z4 := z2.out k hlt
   obtain ⟨ad2, cap2, e, ha⟩ := row_addr (R0.out.below hT.out.keep)
   cases e
   obtain ⟨b, o, rfl, hb, hA⟩ := ha (by omega)
   have CK := Lib.hid (hA.idk k hlt)
   rw [show idL t ++ dg n ++ pb p k ++ idL (p k) = idL t ++ dg n ++ pb p (k + 1) from by rw [List.append_assoc]; rfl] at p4
   obtain ⟨a5, h5⟩ : ∃ a5, a5 = bs (idL t ++ dg n ++ pb p (k + 1)) := ⟨_, rfl⟩
   rw [← h5] at p4
   replace h5 := Lib.hid h5
   generalize bs (idL t ++ dg n ++ pb p k) = a4 at p4 z4 ⊢
   generalize bs (idL (p k)) = d4 at N4 p4 z4
   clear hlt hA ha hb
   go_upto_region 5 with fail
   refine wp_region_lit ?_
   refine wpList_valS (v := ?_) (by kernel_rfl) ?_ ?_
   rotate_left 1
   ·(go_simp; try with_reducible rfl)
   try simp only [Act.put, tA, tZ, tS]
   refine wpList_valG (by kernel_rfl) (ex_fieldP fC1 (.tmp 1) rfl z 0 rfl 32 rfl) ?_
   try simp only [Act.put, tA, tZ, tS]
   iterate 2
    refine wpList_valS (v := ?_) (by kernel_rfl) ?_ ?_
    rotate_left 1
    ·(go_simp; try with_reducible rfl)
    try simp only [Act.put, tA, tZ, tS]
   refine wpList_valG (by kernel_rfl) (ex_index 30 37 (.tmp 22) (.tmp 23) rfl b o k n cap 32 rfl rfl tIds sz30 HLT.out) ?_
   try simp only [Act.put, tA, tZ, tS]
   refine wpList_valG (by kernel_rfl) (ex_load 37 (.tmp 24) rfl b (o + k * 32) 32 (bv (p k)) rfl Tryz.underlying37 rfl sz30 CK.out) ?_
   try simp only [Act.put, tA, tZ, tS]
   refine wpList_callG (by kernel_rfl) fun K hK => ?_
   go_simp
   refine (N4.out _).mono ?_
   rintro e w5 ⟨rfl, B5⟩
   refine hK _ _ ?_
   clear hK K
   try simp only [Act.put, tA, tZ, tS]
   iterate 2
    refine wpList_valS (v := ?_) (by kernel_rfl) ?_ ?_
    rotate_left 1
    ·(go_simp; try with_reducible rfl)
    try simp only [Act.put, tA, tZ, tS]
   refine wpList_nil ?_
   have T5 := Lib.hid (hT.out.step B5)
   clear B5 hT d32 CK
   go_wp2
   go_roundw
   case rel => exact ⟨k + 1, HLT.out, by go_num, by rw [h5.out], T5⟩
   case measure => simp [intOf]; have := HLT.out; omega
  ·have ek : n = k := by omega
   subst ek
   have yk : (n : Int) ≤ (n : Int) := by omega
   have d33 := (cv_parts hT.out.blk).2.1
   have p3 := P3.out
   have z3 := Z3.out
   have e3 : Hid (bs (idL t ++ dg n ++ pb p n ++ tx s) = bs (comB ⟨t, n, p, s⟩)) := rfl
   generalize bs (idL t ++ dg n ++ pb p n ++ tx s) = a6 at p3 e3
   generalize bs (idL t ++ dg n ++ pb p n) = a4 at p3 z3 ⊢
   generalize bs (tx s) = d4 at N3 p3 z3
   generalize bs s = sb at N3 d33
   clear hlt P3 Z3
   go_wp2_with fail
   refine (N3.out _).mono ?_
   rintro e w6 ⟨rfl, B6⟩
   have T6 := Lib.hid (hT.out.step B6)
   clear B6 hT d32 d33
   go_wp2
   go_ret
   rw [e3.out]
   exact ⟨rfl, T6.out.keep⟩
end Go.Proofs.YtnmjcpoobabjgaaGreatDoor
