/- The closed facts of the row of Disks, each in a theorem of its own: what the row says of the program is what the program is. -/
import Derived.Test.YtneepapppbchnaaGreatRows
import Derived.ProofKit
import Derived.Conc.Holds
namespace Go.Proofs.YtneepapppbchnaaGreat.disks
set_option linter.unusedVariables false

theorem laidOut : laidOutB Tryz.prog = true := by kernel_rfl
theorem k3 : mapsRowed Tryz.prog = true := by kernel_rfl
theorem k10 : (Rows.disksRow.inPlace == Tryz.prog.inPlace 3) = true := by kernel_rfl
theorem k11 : (Rows.disksRow.unfollowed == Tryz.prog.unfollowed 3) = true := by kernel_rfl
theorem k12 : (Rows.disksRow.recurses == Tryz.prog.recurses 3) = true := by kernel_rfl
theorem k13 : (Rows.disksRow.named == Tryz.prog.varsNamed 3) = true := by kernel_rfl
end Go.Proofs.YtneepapppbchnaaGreat.disks
