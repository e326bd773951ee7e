import Derived.Test.YtlbclfponongbaaGreatDoorRows
import Derived.Test.YtlbclfponongbaaGreatDoorK
import Derived.Test.YtlbclfponongbaaGreatDoorY8
import Derived.ProofKit
import Derived.LaidMore
import Derived.OpenShut
import Derived.Stop.Joined
import Derived.Lib.LaidTab
/- The tie: the table of round words reads as the program's text lays it. -/
namespace Go.Proofs.YtlbclfponongbaaGreatDoor
open Go.ChangeShapes Go.WideShapes Go.ChangeAt Go.RowKit
abbrev laidK : List (String × DataW Unit) := [("sediment/digest.roundWords", Rows.laid_sediment_digest_roundWords)]
theorem gRound : Tryz.prog.globalNamed "sediment/digest.roundWords" = some 1 := by kernel_rfl
theorem tRound : (Tryz.prog.globals[1]?).map (·.type) = some 117 := by kernel_rfl
theorem door_met (os : Os) (args : Array Value) : laidMetH Tryz.prog laidK ((World.doorLaid Tryz.prog 14 os).forCall (fun _ _ => 0) ⟨#[], args, []⟩).memory :=
  laidMetH_of_parts3 (fuel := 8) (laidMet_of_run' 8 (by kernel_rfl) (by kernel_rfl)) (by kernel_rfl) (by kernel_rfl)
def kz : List Int := [1116352408, 1899447441, 3049323471, 3921009573, 961987163, 1508970993, 2453635748, 2870763221, 3624381080, 310598401, 607225278, 1426881987, 1925078388, 2162078206, 2614888103, 3248222580, 3835390401, 4022224774, 264347078, 604807628, 770255983, 1249150122, 1555081692, 1996064986, 2554220882, 2821834349, 2952996808, 3210313671, 3336571891, 3584528711, 113926993, 338241895, 666307205, 773529912, 1294757372, 1396182291, 1695183700, 1986661051, 2177026350, 2456956037, 2730485921, 2820302411, 3259730800, 3345764771, 3516065817, 3600352804, 4094571909, 275423344, 430227734, 506948616, 659060556, 883997877, 958139571, 1322822218, 1537002063, 1747873779, 1955562222, 2024104815, 2227730452, 2361852424, 2428436474, 2756734187, 3204031479, 3329325298]
theorem kz_kk : ∀ i, i < 64 → kz.getD i 0 = Dg.U (Dg.kk i) := by decide +kernel
theorem of_laid {W : World} (h : laidMetH Tryz.prog laidK W) : Tie W := by
  rw [MakeChecks.laidMetH_plain _ _ _ (by kernel_rfl)] at h
  have ht : Lib.TabIs Tryz.prog W "sediment/digest.roundWords" .u32 kz :=
    Lib.tabIs_of_head (rest := []) (g := 1) (t := 117) (e := 91) (n := 64) gRound tRound Tryz.underlying117 Tryz.underlying91 (by kernel_rfl) (by kernel_rfl) h
  intro i hi
  rw [ht.cell gRound i (by show i < 64; exact hi), kz_kk i hi]
  rfl
end Go.Proofs.YtlbclfponongbaaGreatDoor
