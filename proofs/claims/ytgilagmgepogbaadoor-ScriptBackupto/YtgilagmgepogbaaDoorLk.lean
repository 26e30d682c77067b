/-
  The examples of the chapter as mathematics.
-/
import Derived.Test.YtgilagmgepogbaaDoorKn
set_option linter.unusedVariables false
namespace Go.Proofs.YtgilagmgepogbaaDoor
namespace Km
open Qm Tg

theorem body_end {l : List Nat} (h : l = []) : body l = [] := by rw [h, body_nil]
theorem told_abn : told [97, 98, 10] = [34, 97, 98, 92, 110, 34] := by
  unfold told
  rw [body_cons (by decide), body_cons (by decide), body_cons (by decide), body_end (by decide)]
  decide
theorem told_ff : told [255] = [34, 92, 120, 102, 102, 34] := by
  unfold told
  rw [body_cons (by decide), body_end (by decide)]
  decide
theorem nt_small {n : Nat} (h : n < 10) : nt (n : Int) = [48 + n] := by
  unfold nt
  rw [if_neg (by omega), Int.toNat_natCast, dec_small h]
theorem nt_0 : nt 0 = [48] := nt_small (n := 0) (by decide)
theorem nt_1 : nt 1 = [49] := nt_small (n := 1) (by decide)
theorem nt_2 : nt 2 = [50] := nt_small (n := 2) (by decide)
theorem nt_3 : nt 3 = [51] := nt_small (n := 3) (by decide)
theorem nt_4 : nt 4 = [52] := nt_small (n := 4) (by decide)
theorem nt_5 : nt 5 = [53] := nt_small (n := 5) (by decide)
theorem nt_6 : nt 6 = [54] := nt_small (n := 6) (by decide)
theorem nt_m2 : nt (-2) = [45, 50] := by
  unfold nt
  rw [if_pos (by decide), show (-2 : Int).natAbs = 2 from rfl, dec_small (by decide)]
def ex1 : Cm := ⟨119, 3, 2, [97, 98, 10]⟩
def ex2 : Cm := ⟨109, 5, 0, []⟩
theorem txt_ex1 : txt ex1 = [119, 114, 105, 116, 101, 32, 51, 32, 50, 32, 34, 97, 98, 92, 110, 34] := by
  simp only [txt, ex1]
  rw [if_neg (by decide), if_pos (by decide), nt_3, nt_2, told_abn]
  rfl
theorem txt_ex2 : txt ex2 = [109, 111, 117, 110, 116, 32, 53] := by
  show (if (5 : Int) = -1 then sMount else sMount ++ (32 :: nt 5)) = _
  rw [if_neg (by decide), nt_5]
  rfl
theorem ok_ex1 : ex1.Ok := ⟨by unfold Kind ex1; decide, by decide, by decide, by decide, by decide, by decide, by decide, by decide, by decide⟩
theorem ok_ex2 : ex2.Ok := ⟨by unfold Kind ex2; decide, by decide, by decide, by decide, by decide, by decide, by decide, by decide, by decide⟩
theorem parse_ex : parse [119, 114, 105, 116, 101, 32, 51, 32, 50, 32, 34, 97, 98, 92, 110, 34, 10, 35, 32, 120, 10, 109, 111, 117, 110, 116, 32, 53] = ([ex1, ex2], 0, 0) := by
  have hl : lin [] [119, 114, 105, 116, 101, 32, 51, 32, 50, 32, 34, 97, 98, 92, 110, 34, 10, 35, 32, 120, 10, 109, 111, 117, 110, 116, 32, 53] = [txt ex1, [35, 32, 120], txt ex2] := by
    rw [txt_ex1, txt_ex2]; decide
  unfold parse
  rw [hl, if_neg (by decide)]
  have h1 : par [txt ex1] 0 [] = ([ex1], 0, 0) := par_txt [ex1] (by intro c hc; simp at hc; subst hc; exact ok_ex1) 0 []
  have h2 : par [txt ex2] 2 [ex1] = ([ex1, ex2], 0, 0) := par_txt [ex2] (by intro c hc; simp at hc; subst hc; exact ok_ex2) 2 [ex1]
  rw [show [txt ex1, [35, 32, 120], txt ex2] = [txt ex1] ++ ([[35, 32, 120]] ++ [txt ex2]) from rfl, par_app, h1, if_pos rfl, par_app, par_over [[35, 32, 120]] (by decide), if_pos rfl]
  exact h2
theorem parse_k1 : parse [114, 101, 97, 100, 32, 49] = ([], 1, 3) := by decide
theorem parse_k2 : parse [10, 119, 114, 105, 116, 101, 32, 48, 32, 49, 32, 34, 97] = ([], 2, 3) := by decide
theorem parse_k3 : parse [116, 114, 105, 109, 32, 49, 32, 50, 32, 51] = ([], 1, 3) := by decide
def ex9 : List Cm := [⟨114, 1, 2, []⟩, ⟨119, 0, 1, [255]⟩, ⟨116, 3, 4, []⟩, ⟨99, 5, 0, []⟩, ⟨102, 6, 0, []⟩, ⟨109, -1, 0, []⟩, ⟨109, -2, 0, []⟩, ⟨115, 0, 0, []⟩, ⟨105, 0, 0, []⟩]
theorem prt_ex : prt ex9 = [114, 101, 97, 100, 32, 49, 32, 50, 10, 119, 114, 105, 116, 101, 32, 48, 32, 49, 32, 34, 92, 120, 102, 102, 34, 10, 116, 114, 105, 109, 32, 51, 32, 52, 10, 99, 117, 116, 32, 53, 10, 102, 97, 105, 108, 32, 54, 10, 109, 111, 117, 110, 116, 10, 109, 111, 117, 110, 116, 32, 45, 50, 10, 115, 104, 111, 119, 10, 115, 116, 97, 116, 10] := by
  simp [prt, ex9, txt, nt_0, nt_1, nt_2, nt_3, nt_4, nt_5, nt_6, nt_m2, told_ff, sRead, sWrite, sTrim, sCut, sFail, sMount, sShow, sStat]
theorem wrd_ex : wrd [32, 32, 97, 98, 32, 99] = [97, 98] ∧ rst [32, 32, 97, 98, 32, 99] = [32, 99] := by decide
end Km
end Go.Proofs.YtgilagmgepogbaaDoor
