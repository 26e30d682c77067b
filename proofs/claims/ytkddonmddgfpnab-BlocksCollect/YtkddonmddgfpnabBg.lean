/-
  BlocksCollect, given what the program's own calls answer: arguments that it leaves alone.
-/
import Derived.Test.YtkddonmddgfpnabBe
import Derived.Test.YtkddonmddgfpnabBc
namespace Go.Proofs.Ytkddonmddgfpnab
open Go.ChangeShapes Go.WideShapes Go.ChangeAt Go.RowKit
namespace Tg
set_option maxRecDepth 100000 in
set_option maxHeartbeats 4000000 in
theorem collect_no (HA : AwOk) {w : World} {a : Option Addr} {cap : Nat} {p : List Rn} (hP : Rz w a cap p) {pages fr tt : Int} (h : ¬ (p.length ≤ 100 ∧ (1 ≤ pages ∧ pages ≤ 32) ∧ (0 ≤ fr ∧ fr ≤ 63) ∧ (0 ≤ tt ∧ tt ≤ 63) ∧ ¬ fr = tt)) :
    Calls Try.prog 7 #[.slice a p.length cap, .int .i64 pages, .int .i64 fr, .int .i64 tt] w fun e w' => e = .returned (.bool true) ∧ Keep (fun _ => False) w w' := by
  have hc1 := hP.1
  have hc2 := hP.2.1
  by_cases h0 : p.length ≤ 100
  rotate_left
  · have d0 : (100 : Int) < (p.length : Int) := by omega
    go_enter Try.func7, Try.ntmps7
    go_wp2_with fail
    refine (HA _).mono ?_
    rintro e w0 ⟨rfl, k0⟩
    go_wp2_with fail
    go_ret
    exact ⟨rfl, k0⟩
  have d0 : ¬ (100 : Int) < (p.length : Int) := by omega
  by_cases h1 : 1 ≤ pages
  rotate_left
  · have d1 : pages < 1 := by omega
    go_enter Try.func7, Try.ntmps7
    go_wp2_with fail
    refine (HA _).mono ?_
    rintro e w0 ⟨rfl, k0⟩
    go_wp2_with fail
    go_ret
    exact ⟨rfl, k0⟩
  have d1 : ¬ pages < 1 := by omega
  by_cases h2 : pages ≤ 32
  rotate_left
  · have d2 : 32 < pages := by omega
    go_enter Try.func7, Try.ntmps7
    go_wp2_with fail
    refine (HA _).mono ?_
    rintro e w0 ⟨rfl, k0⟩
    go_wp2_with fail
    go_ret
    exact ⟨rfl, k0⟩
  have d2 : ¬ 32 < pages := by omega
  by_cases h3 : 0 ≤ fr
  rotate_left
  · have d3 : fr < 0 := by omega
    go_enter Try.func7, Try.ntmps7
    go_wp2_with fail
    refine (HA _).mono ?_
    rintro e w0 ⟨rfl, k0⟩
    go_wp2_with fail
    go_ret
    exact ⟨rfl, k0⟩
  have d3 : ¬ fr < 0 := by omega
  by_cases h4 : fr ≤ 63
  rotate_left
  · have d4 : 63 < fr := by omega
    go_enter Try.func7, Try.ntmps7
    go_wp2_with fail
    refine (HA _).mono ?_
    rintro e w0 ⟨rfl, k0⟩
    go_wp2_with fail
    go_ret
    exact ⟨rfl, k0⟩
  have d4 : ¬ 63 < fr := by omega
  by_cases h5 : 0 ≤ tt
  rotate_left
  · have d5 : tt < 0 := by omega
    go_enter Try.func7, Try.ntmps7
    go_wp2_with fail
    refine (HA _).mono ?_
    rintro e w0 ⟨rfl, k0⟩
    go_wp2_with fail
    go_ret
    exact ⟨rfl, k0⟩
  have d5 : ¬ tt < 0 := by omega
  by_cases h6 : tt ≤ 63
  rotate_left
  · have d6 : 63 < tt := by omega
    go_enter Try.func7, Try.ntmps7
    go_wp2_with fail
    refine (HA _).mono ?_
    rintro e w0 ⟨rfl, k0⟩
    go_wp2_with fail
    go_ret
    exact ⟨rfl, k0⟩
  have d6 : ¬ 63 < tt := by omega
  by_cases h7 : fr = tt
  · subst h7
    go_enter Try.func7, Try.ntmps7
    go_wp2_with fail
    refine (HA _).mono ?_
    rintro e w0 ⟨rfl, k0⟩
    go_wp2_with fail
    go_ret
    exact ⟨rfl, k0⟩
  exact (h ⟨h0, ⟨h1, h2⟩, ⟨h3, h4⟩, ⟨h5, h6⟩, h7⟩).elim
end Tg
end Go.Proofs.Ytkddonmddgfpnab
