/-
  Pieces folded into a map's runs: the program's way, and the document's own.
-/
import Derived.Test.YtkddonmddgfpnabSpB
namespace Go.Proofs.Ytkddonmddgfpnab
open Go.ChangeShapes Go.WideShapes Go.ChangeAt Go.RowKit
namespace Tg

theorem newR {w : World} {C N : Nat} (c1 : 1 ≤ C) (c2 : C ≤ 512) (n1 : 1 ≤ N) (n2 : N ≤ 512) :
    Calls Try.prog 34 #[.int .i64 (C : Int), .int .i64 (N : Int)] w fun e w' => ∃ q S, e = .returned (.tuple #[.pointer (some ⟨q, 0, none⟩), .int .i64 0]) ∧ Sp w w' false q S (fun _ => False) N C (List.replicate C (-1)) := by
  have hlen : (refR (List.replicate C (-1)) C).length ≤ N := by
    have := (of_nil C).runs
    rw [List.length_replicate] at this
    rw [← this]; simp
  refine (newMap_any (w := w) c1 c2 n1 n2).mono ?_
  rintro e w1 ⟨q, b, p, k, rfl, M1⟩
  have hb := M1.blocks
  have hl := M1.lt
  exact ⟨q, _, rfl, Low.nil C, List.length_replicate, tab_nil C, c1, c2, n1, n2, hlen, M1.keep, fun x hx => by
    rcases hx with rfl | rfl | rfl
    · exact ⟨hb.2.1, hl.2.1, fun e => e⟩
    · exact ⟨hb.2.2.1, hl.2.2.1, fun e => e⟩
    · exact ⟨hb.2.2.2, hl.2.2.2, fun e => e⟩, fun x e => e.elim, b, p, k, [], rfl, M1, of_nil C, fun e => e, fun e => e, fun e => e, fun e => e⟩
/-- One piece set, as far as it lies below 512. -/
theorem fold_step {W w : World} {fl : Bool} {q : Nat} {S T : Nat → Prop} {t : List Int} (h : Sp W w fl q S T 512 512 t) {x : Rn} (hx : Fits [x]) {n : Int} (hn : n = min x.len (wrap64 (512 - x.lba))) :
    Calls Try.prog (fSet fl) #[.pointer (some ⟨q, 0, none⟩), .int .i64 x.lba, .int .i64 n, .int .i64 x.phys] w fun e w' => (∃ r, e = .returned (.int .i64 r)) ∧ Sp W w' fl q S T 512 512 (fold1 t x) ∧ Keep S w w' := by
  have hf := hx x (by simp)
  by_cases hs : Skip x
  · have hno : okR ((512 : Nat) : Int) x.lba n = false ∨ x.phys < 0 ∨ 1048576 < x.phys := by
      cases c : okR ((512 : Nat) : Int) x.lba n with
      | false => exact Or.inl rfl
      | true =>
        right
        obtain ⟨c1, c2, c3⟩ := okR_iff.1 c
        have hw : wrap64 (512 - x.lba) = 512 - x.lba := by unfold wrap64; omega
        rw [hw] at hn
        unfold Skip at hs
        omega
    refine (h.set_no hf.1.2 hno).mono ?_
    rintro e w' ⟨rfl, M, k⟩
    refine ⟨⟨_, rfl⟩, ?_, k⟩
    unfold fold1
    rw [if_pos hs]
    exact M
  · have hs' := hs
    unfold Skip at hs'
    have hw : wrap64 (512 - x.lba) = 512 - x.lba := by unfold wrap64; omega
    rw [hw] at hn
    have hclip : (clipN x : Int) = n := by unfold clipN; omega
    by_cases hz : x.lba = 512
    · refine (h.set_no hf.1.2 (Or.inl ?_)).mono ?_
      · rw [Bool.eq_false_iff]
        intro c
        obtain ⟨c1, c2, c3⟩ := okR_iff.1 c
        omega
      · rintro e w' ⟨rfl, M, k⟩
        refine ⟨⟨_, rfl⟩, ?_, k⟩
        unfold fold1
        rw [if_neg hs, show clipN x = 0 by omega]
        exact M
    · have hcd : CanDo 512 ⟨x.lba, n, x.phys⟩ := by unfold CanDo; simp only; omega
      have hst : stepL 512 t ⟨x.lba, n, x.phys⟩ = (fold1 t x, 0) := by
        unfold stepL fold1
        rw [h.tl, if_pos hcd, if_neg hs, if_pos (by have := refR_len (putN t x.lba.toNat x.phys n.toNat) 512; exact this)]
        rw [show n.toNat = clipN x by omega]
      have := h.set (x := ⟨x.lba, n, x.phys⟩) hf.1.2 (by simp only; omega)
      rw [hst] at this
      refine this.mono ?_
      rintro e w' ⟨rfl, M, k⟩
      exact ⟨⟨_, rfl⟩, M, k⟩

end Tg
end Go.Proofs.Ytkddonmddgfpnab
