/- Closed facts of the program's table of types. -/
import Derived.Test.YtignemioillaiaaRows
namespace Go.Proofs.Ytignemioillaiaa

theorem sz_req : (Try.prog.info? 25).map (·.size) = some 7 := by kernel_rfl
theorem sz_rep : (Try.prog.info? 27).map (·.size) = some 7 := by kernel_rfl
theorem sz_row : (Try.prog.info? 82).map (·.size) = some 2 := by kernel_rfl
theorem sz_rng : (Try.prog.info? 33).map (·.size) = some 7 := by kernel_rfl
theorem sz_cmd : (Try.prog.info? 35).map (·.size) = some 17 := by kernel_rfl
theorem sz_bal : (Try.prog.info? 29).map (·.size) = some 2 := by kernel_rfl
theorem sz_vot : (Try.prog.info? 84).map (·.size) = some 20 := by kernel_rfl
theorem sz_msg : (Try.prog.info? 38).map (·.size) = some 45 := by kernel_rfl
theorem sz_u8 : (Try.prog.info? 5).map (·.size) = some 1 := by kernel_rfl
theorem sz_u32 : (Try.prog.info? 22).map (·.size) = some 1 := by kernel_rfl
theorem sz_u64 : (Try.prog.info? 23).map (·.size) = some 1 := by kernel_rfl
theorem sz_rows : (Try.prog.info? 30).map (·.size) = some 1 := by kernel_rfl
theorem sz_dups : (Try.prog.info? 31).map (·.size) = some 1 := by kernel_rfl
theorem sz_votes : (Try.prog.info? 36).map (·.size) = some 1 := by kernel_rfl

end Go.Proofs.Ytignemioillaiaa
