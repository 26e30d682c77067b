/-
  BlocksCollect: the changes one after the other.
-/
import Derived.Test.YtkddonmddgfpnabBj
namespace Go.Proofs.Ytkddonmddgfpnab
open Go.ChangeShapes Go.WideShapes Go.ChangeAt Go.RowKit
namespace Tg
theorem step_can {t : List Int} (ht : t.length = 512) {x : Rn} (hc : CanDo 512 x) : stepL 512 t x = (putN t x.lba.toNat x.phys x.len.toNat, 0) := by
  unfold stepL
  rw [ht, if_pos hc, if_pos (refR_len _ 512)]
theorem set_step {P : Int} (hP : P ≤ 2048) {l : List Rn} (hF : Ft13 l) (hi : inP P l = true) {i : Nat} {x : Rn} (hx : l[i]? = some x) : stepL 512 (setT (l.take i) blank) x = (setT (l.take (i + 1)) blank, 0) := by
  have hm := List.mem_of_getElem? hx
  have h1 := hF.bd hm
  have h2 := inP_iff.1 hi x hm
  rw [step_can (by rw [setT_len]; exact blank_len) (by unfold CanDo; omega), take_more hx, setT_snoc]
/-- All changes done, one after the other. -/
theorem run_moved {pages fr tt : Int} (hp : 1 ≤ pages ∧ pages ≤ 32) (ht : 0 ≤ tt ∧ tt ≤ 63) {l : List Rn} (hF : Ft13 l) {t : List Int} (hs : sumLen (movL pages fr l) ≤ pages) (h : Moved pages fr tt l (movL pages fr l) 0 t) :
    ∀ i, i ≤ (movL pages fr l).length → ∃ u, runL 512 (mkOps (tt * pages) ((movL pages fr l).take i)) t = (u, 0) ∧ Moved pages fr tt l (movL pages fr l) i u
  | 0, _ => ⟨t, by simp [mkOps, runL], h⟩
  | i + 1, hi => by
    obtain ⟨u, hu, hM⟩ := run_moved hp ht hF hs h i (by omega)
    obtain ⟨y, hy⟩ : ∃ y, (movL pages fr l)[i]? = some y := ⟨_, List.getElem?_eq_getElem (by omega)⟩
    obtain ⟨h1, h2, h3⟩ := moved_next hp ht hF hy hs hM
    have hin := splL_in hF (mov_mem.1 (List.mem_of_getElem? hy)).1
    have hst := step_can hM.len (x := ⟨y.lba, y.len, tt * pages + sumLen ((movL pages fr l).take i)⟩) (by unfold CanDo; simp only; omega)
    refine ⟨_, ?_, h1⟩
    rw [take_more hy, mkOps_snoc, runL_snoc _ _ _ _ (by rw [hu]), hu]
    simp only [hst, if_true]
/-- What Apply leaves. -/
theorem all_moved {pages fr tt : Int} (hp : 1 ≤ pages ∧ pages ≤ 32) (ht : 0 ≤ tt ∧ tt ≤ 63) {l : List Rn} (hF : Ft13 l) (hi : inP (64 * pages) l = true) (hs : cnt pages fr l ≤ pages) :
    ∃ u, (runL 512 (mkOps (tt * pages) (movL pages fr l)) (setT l blank)).2 = 0 ∧ allL 512 (mkOps (tt * pages) (movL pages fr l)) (setT l blank) = u ∧ Moved pages fr tt l (movL pages fr l) (movL pages fr l).length u := by
  have e := set_runs hF l.length
  rw [List.take_length] at e
  have h0 : Moved pages fr tt l (movL pages fr l) 0 (setT l blank) := moved_zero (by rw [setT_len]; exact blank_len) e (fun s q hq => by
    obtain ⟨x, hx, h1, h2, h3⟩ := page_mem hq
    have b1 := hF.bd hx
    have b2 := inP_iff.1 hi x hx
    unfold Rn.fin at h2
    omega)
  obtain ⟨u, h1, h2⟩ := run_moved hp ht hF (by rw [mov_sum (by omega)]; exact hs) h0 _ (Nat.le_refl _)
  rw [List.take_length] at h1
  exact ⟨u, by rw [h1], by unfold allL; rw [h1]; rfl, h2⟩
end Tg
end Go.Proofs.Ytkddonmddgfpnab
