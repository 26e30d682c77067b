/-
  What the rows' lists give: the library's error is there.
-/
import Derived.Test.YtnfbcaanedkodaaDoorAwake
import Derived.Stop.LaidErr
import Derived.LaidLaws
import Derived.MakeChecks
namespace Go.Proofs.YtnfbcaanedkodaaDoor
open Go.ChangeShapes Go.WideShapes Go.ChangeAt Go.RowKit

theorem gSyn : Tryd.prog.globalNamed "strconv.ErrSyntax" = some 0 := by kernel_rfl
theorem gSynType : (Tryd.prog.globals[0]?).map (·.type) = some 51 := by kernel_rfl
theorem cells67 : Tryd.prog.cellsOf 67 = 1 := by kernel_rfl
theorem cells9 : Tryd.prog.cellsOf 9 = 1 := by kernel_rfl
theorem star65 : "*" ++ "errors.errorString" = "*errors.errorString" := by decide
theorem row65 (u : TypeId) (h : Tryd.prog.typeName? 3 u = some "*errors.errorString") : u = 65 :=
  typeName_ptr_named (nm := "errors.errorString") (by rw [star65]; kernel_rfl) (by kernel_rfl) (by decide) u (by rw [star65]; exact h)

theorem gl_of_laid {W : World} (h : laidMetH Tryd.prog Rows.quoteKnownRow.laid W) : Tg.Gl W := by
  rw [MakeChecks.laidMetH_plain _ _ _ (by kernel_rfl)] at h
  have h' : laidMet Tryd.prog (("math/bits.deBruijn32tab", Rows.laid_math_bits_deBruijn32tab) :: ("math/bits.deBruijn64tab", Rows.laid_math_bits_deBruijn64tab) :: ("internal/strconv.uint64pow10", Rows.laid_internal_strconv_uint64pow10) :: ("strconv.ErrRange", Rows.laid_strconv_ErrRange) :: [("strconv.ErrSyntax", Rows.laid_strconv_ErrSyntax)]) W := h
  obtain ⟨a0, s0, hv0, _⟩ := laid_sentinel h'.tail.tail.tail.tail gSyn gSynType Tryd.underlying51 row65 Tryd.underlying65 Tryd.underlying67 rfl rfl Tryd.underlying9 cells67 cells9
  exact ⟨65, .pointer (some a0), by simpa using World.var?_cell gSyn hv0 0⟩
end Go.Proofs.YtnfbcaanedkodaaDoor
