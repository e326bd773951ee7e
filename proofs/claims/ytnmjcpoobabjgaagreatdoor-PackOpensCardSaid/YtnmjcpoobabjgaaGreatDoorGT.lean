import Derived.Test.YtnmjcpoobabjgaaGreatDoorRows
import Derived.Test.YtnmjcpoobabjgaaGreatDoorHK
import Derived.Test.YtnmjcpoobabjgaaGreatDoorGJm
import Derived.ProofKit
import Derived.LaidMore
import Derived.OpenShut
import Derived.Stop.Joined
import Derived.Lib.LaidTab
import Derived.Stop.LaidErr
set_option linter.unusedVariables false
set_option linter.unusedSimpArgs false
/- The tie: the two laid tables read as the program's text lays them. -/
namespace Go.Proofs.YtnmjcpoobabjgaaGreatDoor
open Go.ChangeShapes Go.WideShapes Go.ChangeAt Go.RowKit
abbrev laidK : List (String × DataW Unit) := [("sediment/digest.roundWords", Rows.laid_sediment_digest_roundWords), ("sediment/crc.halfBytes", Rows.laid_sediment_crc_halfBytes)]
theorem gRound : Tryz.prog.globalNamed "sediment/digest.roundWords" = some 1 := by kernel_rfl
theorem tRound : (Tryz.prog.globals[1]?).map (·.type) = some 170 := by kernel_rfl
theorem gHalf : Tryz.prog.globalNamed "sediment/crc.halfBytes" = some 2 := by kernel_rfl
theorem tHalf : (Tryz.prog.globals[2]?).map (·.type) = some 203 := by kernel_rfl
theorem door_met (os : Os) (args : Array Value) : laidMetH Tryz.prog laidK ((World.doorLaid Tryz.prog 19 os).forCall (fun _ _ => 0) ⟨#[], args, []⟩).memory :=
  laidMetH_of_parts3 (fuel := 8) (laidMet_of_run' 8 (by kernel_rfl) (by kernel_rfl)) (by kernel_rfl) (by kernel_rfl)
def kz : List Int := [1116352408, 1899447441, 3049323471, 3921009573, 961987163, 1508970993, 2453635748, 2870763221, 3624381080, 310598401, 607225278, 1426881987, 1925078388, 2162078206, 2614888103, 3248222580, 3835390401, 4022224774, 264347078, 604807628, 770255983, 1249150122, 1555081692, 1996064986, 2554220882, 2821834349, 2952996808, 3210313671, 3336571891, 3584528711, 113926993, 338241895, 666307205, 773529912, 1294757372, 1396182291, 1695183700, 1986661051, 2177026350, 2456956037, 2730485921, 2820302411, 3259730800, 3345764771, 3516065817, 3600352804, 4094571909, 275423344, 430227734, 506948616, 659060556, 883997877, 958139571, 1322822218, 1537002063, 1747873779, 1955562222, 2024104815, 2227730452, 2361852424, 2428436474, 2756734187, 3204031479, 3329325298]
theorem kz_kk : ∀ i, i < 64 → kz.getD i 0 = Dg.U (Dg.kk i) := by decide +kernel
def hz : List Int := [0, 498536548, 997073096, 651767980, 1994146192, 1802195444, 1303535960, 1342533948, 3988292384, 4027552580, 3604390888, 3412177804, 2607071920, 2262029012, 2685067896, 3183342108]
theorem hz_hb : ∀ i, i < 16 → hz.getD i 0 = Cr.U (Cr.hb i) := by decide +kernel
theorem of_laid {W : World} (h : laidMetH Tryz.prog laidK W) : Tie W ∧ TieC W := by
  rw [MakeChecks.laidMetH_plain _ _ _ (by kernel_rfl)] at h
  have ht : Lib.TabIs Tryz.prog W "sediment/digest.roundWords" .u32 kz :=
    Lib.tabIs_of_head (rest := [("sediment/crc.halfBytes", Rows.laid_sediment_crc_halfBytes)]) (g := 1) (t := 170) (e := 113) (n := 64) gRound tRound Tryz.underlying170 Tryz.underlying113 (by kernel_rfl) (by kernel_rfl) h
  have hc : Lib.TabIs Tryz.prog W "sediment/crc.halfBytes" .u32 hz :=
    Lib.tabIs_of_head (rest := []) (g := 2) (t := 203) (e := 113) (n := 16) gHalf tHalf Tryz.underlying203 Tryz.underlying113 (by kernel_rfl) (by kernel_rfl) (laidMet.tail h)
  refine ⟨fun i hi => ?_, fun i hi => ?_⟩
  · rw [ht.cell gRound i (by show i < 64; exact hi), kz_kk i hi]
    rfl
  · rw [hc.cell gHalf i (by show i < 16; exact hi), hz_hb i hi]
    rfl
end Go.Proofs.YtnmjcpoobabjgaaGreatDoor
