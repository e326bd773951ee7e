import Derived.Test.YtnfhnkplkbpmpaaDoorPd
namespace Go.Proofs.YtnfhnkplkbpmpaaDoor
/- the digest of three known bytes -/
def abcW : List W32 := [0x61626380#32, 0x00000000#32, 0x00000000#32, 0x00000000#32, 0x00000000#32, 0x00000000#32, 0x00000000#32, 0x00000000#32, 0x00000000#32, 0x00000000#32, 0x00000000#32, 0x00000000#32, 0x00000000#32, 0x00000000#32, 0x00000000#32, 0x00000018#32, 0x61626380#32, 0x000f0000#32, 0x7da86405#32, 0x600003c6#32, 0x3e9d7b78#32, 0x0183fc00#32, 0x12dcbfdb#32, 0xe2e2c38e#32, 0xc8215c1a#32, 0xb73679a2#32, 0xe5bc3909#32, 0x32663c5b#32, 0x9d209d67#32, 0xec8726cb#32, 0x702138a4#32, 0xd3b7973b#32, 0x93f5997f#32, 0x3b68ba73#32, 0xaff4ffc1#32, 0xf10a5c62#32, 0x0a8b3996#32, 0x72af830a#32, 0x9409e33e#32, 0x24641522#32, 0x9f47bf94#32, 0xf0a64f5a#32, 0x3e246a79#32, 0x27333ba3#32, 0x0c4763f2#32, 0x840abf27#32, 0x7a290d5d#32, 0x065c43da#32, 0xfb3e89cb#32, 0xcc7617db#32, 0xb9e66c34#32, 0xa9993667#32, 0x84badedd#32, 0xc21462bc#32, 0x1487472c#32, 0xb20f7a99#32, 0xef57b9cd#32, 0xebe6b238#32, 0x9fe3095e#32, 0x78bc8d4b#32, 0xa43fcf15#32, 0x668b2ff8#32, 0xeeaba2cc#32, 0x12b1edeb#32]
def abcw (i : Nat) : W32 := abcW.getD i 0#32
theorem tab_lit (d g : Nat → W32) (h0 : ∀ j, j < 16 → g j = d j) (hs : ∀ j, j < 64 → 16 ≤ j → g j = sS1 (g (j - 2)) + g (j - 7) + sS0 (g (j - 15)) + g (j - 16)) :
    ∀ n, n ≤ 48 → ∀ j, j < 16 + n → g j = tab d n j := by
  intro n
  induction n with
  | zero => intro _ j hj; exact h0 j (by omega)
  | succ n ih =>
    intro hn j hj
    have hg : ∀ j, j < 16 + n → g j = tab d (16 + n - 16) j := by rw [show 16 + n - 16 = n by omega]; exact ih (by omega)
    have := tab_step d g (16 + n) (by omega) hg j (by omega)
    rw [show 16 + n + 1 - 16 = n + 1 by omega] at this
    rw [← this]
    by_cases c : j = 16 + n
    · rw [if_pos c, c, hs _ (by omega) (by omega)]
    · rw [if_neg c]
def abcF (i : Nat) : UInt8 := if i = 0 then 0x61 else if i = 1 then 0x62 else 0x63
theorem abc_step : ∀ j, j < 64 → 16 ≤ j → abcw j = sS1 (abcw (j - 2)) + abcw (j - 7) + sS0 (abcw (j - 15)) + abcw (j - 16) := by decide +kernel
theorem abc_start : ∀ j, j < 16 → abcw j = wd (fun i => pad abcF 3 (64 * 0 + i)) j := by decide +kernel
theorem abc_sch (j : Nat) (hj : j < 64) : sch (wd (fun i => pad abcF 3 (64 * 0 + i))) j = abcw j :=
  (tab_lit _ abcw abc_start abc_step 48 (by omega) j (by omega)).symm
def abcS (i : Nat) : W32 := iv i + ofSt (rnds abcw (stOf iv) 64) i
theorem abc_val : sByte abcS 0 = 0xba ∧ sByte abcS 1 = 0x78 ∧ sByte abcS 30 = 0x15 ∧ sByte abcS 31 = 0xad := by decide +kernel
theorem abc_dig (i : Nat) (hi : i < 32) : dig abcF 3 i = sByte abcS i := by
  unfold dig
  rw [show nbl 3 = 1 by decide]
  refine sByte_congr (fun j hj => ?_) i hi
  show cmpr iv (fun i => pad abcF 3 (64 * 0 + i)) j = _
  unfold cmpr abcS
  rw [rnds_congr (stOf iv) 64 abc_sch]
end Go.Proofs.YtnfhnkplkbpmpaaDoor
