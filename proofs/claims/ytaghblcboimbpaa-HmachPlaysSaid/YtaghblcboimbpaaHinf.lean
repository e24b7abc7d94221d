/-
  BYTES AND HOST INSTRUCTIONS AS ELEMENTS OF SLICES: closed facts.
-/
import Derived.Test.YtaghblcboimbpaaHb
import Derived.Test.YtaghblcboimbpaaHc3
import Derived.Test.YtaghblcboimbpaaAppR
namespace Go.Proofs.Ytaghblcboimbpaa
open Go.RowKit

theorem Try.info_u8 : (Try.prog.info? 5).map (fun i => (i.zero, i.size, i.bytes)) = some (some (.int .u8 0), 1, 1) := by kernel_rfl
theorem Try.info_hi : (Try.prog.info? 35).map (fun i => (i.zero, i.size, i.bytes)) = some (some (hv 0 0 0 0 0), 5, 40) := by kernel_rfl
end Go.Proofs.Ytaghblcboimbpaa
