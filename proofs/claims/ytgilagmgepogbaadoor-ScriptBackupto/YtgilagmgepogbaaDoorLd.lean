/-
  What the rows' lists give: the library's error and its powers of ten are there.
-/
import Derived.Test.YtgilagmgepogbaaDoorSf
import Derived.Lib.LaidTab
import Derived.Stop.LaidErr
import Derived.LaidLaws
import Derived.MakeChecks
namespace Go.Proofs.YtgilagmgepogbaaDoor
open Go.ChangeShapes Go.WideShapes Go.ChangeAt Go.RowKit

theorem gSyn : Tryd.prog.globalNamed "strconv.ErrSyntax" = some 0 := by kernel_rfl
theorem gSynType : (Tryd.prog.globals[0]?).map (·.type) = some 71 := by kernel_rfl
theorem gPowType : (Tryd.prog.globals[2]?).map (·.type) = some 129 := by kernel_rfl
theorem cells120 : Tryd.prog.cellsOf 120 = 1 := by kernel_rfl
theorem cells9 : Tryd.prog.cellsOf 9 = 1 := by kernel_rfl
theorem cells105 : Tryd.prog.cellsOf 105 = 1 := by kernel_rfl
theorem cells129 : Tryd.prog.cellsOf 129 = 20 := by kernel_rfl
theorem star118 : "*" ++ "errors.errorString" = "*errors.errorString" := by decide
theorem row118 (u : TypeId) (h : Tryd.prog.typeName? 3 u = some "*errors.errorString") : u = 118 :=
  typeName_ptr_named (nm := "errors.errorString") (by rw [star118]; kernel_rfl) (by kernel_rfl) (by decide) u (by rw [star118]; exact h)
theorem tab_pow {H : Type} : (Rows.laid_internal_strconv_uint64pow10 : DataW H) = Lib.tabData .u64 Lib.pow10Tab := by
  unfold Rows.laid_internal_strconv_uint64pow10 Lib.tabData Lib.pow10Tab
  rfl

theorem gt_of_laid {W : World} (h : laidMetH Tryd.prog Rows.scriptKnownRow.laid W) : Tg.Gt W := by
  rw [MakeChecks.laidMetH_plain _ _ _ (by kernel_rfl)] at h
  have h' : laidMet Tryd.prog (("math/bits.deBruijn32tab", Rows.laid_math_bits_deBruijn32tab) :: ("math/bits.deBruijn64tab", Rows.laid_math_bits_deBruijn64tab) :: ("internal/strconv.uint64pow10", Rows.laid_internal_strconv_uint64pow10) :: ("strconv.ErrRange", Rows.laid_strconv_ErrRange) :: [("strconv.ErrSyntax", Rows.laid_strconv_ErrSyntax)]) W := h
  obtain ⟨a0, s0, hv0, _⟩ := laid_sentinel h'.tail.tail.tail.tail gSyn gSynType Tryd.underlying71 row118 Tryd.underlying118 Tryd.underlying120 rfl rfl Tryd.underlying9 cells120 cells9
  have h3 := h'.tail.tail
  rw [tab_pow] at h3
  exact ⟨⟨118, .pointer (some a0), by simpa using World.var?_cell gSyn hv0 0⟩, Lib.tabIs_of_head Tg.gPow gPowType Tryd.underlying129 Tryd.underlying105 cells105 cells129 h3⟩
end Go.Proofs.YtgilagmgepogbaaDoor
