/-
  Pieces folded into a map's runs: the program's way, and the document's own.
-/
import Derived.Test.YtkddonmddgfpnaaSpB
namespace Go.Proofs.Ytkddonmddgfpnaa
open Go.ChangeShapes Go.WideShapes Go.ChangeAt Go.RowKit
namespace Tg

theorem newR {w : World} {C N : Nat} (c1 : 1 ≤ C) (c2 : C ≤ 512) (n1 : 1 ≤ N) (n2 : N ≤ 512) :
    Calls Try.prog 30 #[.int .i64 (C : Int), .int .i64 (N : Int)] w fun e w' => ∃ q S, e = .returned (.tuple #[.pointer (some ⟨q, 0, none⟩), .int .i64 0]) ∧ Sp w w' false q S (fun _ => False) N C (List.replicate C (-1)) := by
  have hlen : (refR (List.replicate C (-1)) C).length ≤ N := by
    have := (of_nil C).runs
    rw [List.length_replicate] at this
    rw [← this]; simp
  refine (newMap_any (w := w) c1 c2 n1 n2).mono ?_
  rintro e w1 ⟨q, b, p, k, rfl, M1⟩
  have hb := M1.blocks
  have hl := M1.lt
  exact ⟨q, _, rfl, Low.nil C, List.length_replicate, tab_nil C, c1, c2, n1, n2, hlen, M1.keep, fun x hx => by
    rcases hx with rfl | rfl | rfl
    · exact ⟨hb.2.1, hl.2.1, fun e => e⟩
    · exact ⟨hb.2.2.1, hl.2.2.1, fun e => e⟩
    · exact ⟨hb.2.2.2, hl.2.2.2, fun e => e⟩, fun x e => e.elim, b, p, k, [], rfl, M1, of_nil C, fun e => e, fun e => e, fun e => e, fun e => e⟩
/-- One piece set, as far as it lies below 512. -/
theorem fold_step {W w : World} {fl : Bool} {q : Nat} {S T : Nat → Prop} {t : List Int} (h : Sp W w fl q S T 512 512 t) {x : Rn} (hx : Fits [x]) {n : Int} (hn : n = min x.len (wrap64 (512 - x.lba))) :
    Calls Try.prog (fSet fl) #[.pointer (some ⟨q, 0, none⟩), .int .i64 x.lba, .int .i64 n, .int .i64 x.phys] w fun e w' => (∃ r, e = .returned (.int .i64 r)) ∧ Sp W w' fl q S T 512 512 (fold1 t x) ∧ Keep S w w' := by
  have hf := hx x (by simp)
  by_cases hs : Skip x
  · have hno : okR ((512 : Nat) : Int) x.lba n = false ∨ x.phys < 0 ∨ 1048576 < x.phys := by
      cases c : okR ((512 : Nat) : Int) x.lba n with
      | false => exact Or.inl rfl
      | true =>
        right
        obtain ⟨c1, c2, c3⟩ := okR_iff.1 c
        have hw : wrap64 (512 - x.lba) = 512 - x.lba := by unfold wrap64; omega
        rw [hw] at hn
        unfold Skip at hs
        omega
    refine (h.set_no hf.1.2 hno).mono ?_
    rintro e w' ⟨rfl, M, k⟩
    refine ⟨⟨_, rfl⟩, ?_, k⟩
    unfold fold1
    rw [if_pos hs]
    exact M
  · have hs' := hs
    unfold Skip at hs'
    have hw : wrap64 (512 - x.lba) = 512 - x.lba := by unfold wrap64; omega
    rw [hw] at hn
    have hclip : (clipN x : Int) = n := by unfold clipN; omega
    by_cases hz : x.lba = 512
    · refine (h.set_no hf.1.2 (Or.inl ?_)).mono ?_
      · rw [Bool.eq_false_iff]
        intro c
        obtain ⟨c1, c2, c3⟩ := okR_iff.1 c
        omega
      · rintro e w' ⟨rfl, M, k⟩
        refine ⟨⟨_, rfl⟩, ?_, k⟩
        unfold fold1
        rw [if_neg hs, show clipN x = 0 by omega]
        exact M
    · have hcd : CanDo 512 ⟨x.lba, n, x.phys⟩ := by unfold CanDo; simp only; omega
      have hst : stepL 512 t ⟨x.lba, n, x.phys⟩ = (fold1 t x, 0) := by
        unfold stepL fold1
        rw [h.tl, if_pos hcd, if_neg hs, if_pos (by have := refR_len (putN t x.lba.toNat x.phys n.toNat) 512; exact this)]
        rw [show n.toNat = clipN x by omega]
      have := h.set (x := ⟨x.lba, n, x.phys⟩) hf.1.2 (by simp only; omega)
      rw [hst] at this
      refine this.mono ?_
      rintro e w' ⟨rfl, M, k⟩
      exact ⟨⟨_, rfl⟩, M, k⟩

set_option maxRecDepth 100000 in
set_option maxHeartbeats 1000000 in
theorem fold_any {w : World} {a : Option Addr} {cap : Nat} {l : List Rn} (hR : Rz w a cap l) (hf : Fits l) :
    Calls Try.prog 25 #[.slice a l.length cap] w fun e w' => ∃ a' c', e = .returned (.slice a' (foldR l).length c') ∧ Rs w' a' c' (foldR l) ∧ Keep (fun _ => False) w w' ∧ ∀ g, a' = some ⟨g, 0, none⟩ → w.heap.size ≤ g := by
  have hlc := hR.1
  have hlc2 := hR.2.1
  have hnew := newR (w := w) (C := 512) (N := 512) (by omega) (by omega) (by omega) (by omega)
  rw [show ((512 : Nat) : Int) = 512 from rfl] at hnew
  have hend : l.take l.length = l := List.take_length
  go_enter Try.func25, Try.ntmps25
  go_wp2_with (go_at_call 30; refine hnew.mono ?_; rintro e w1 ⟨q, S, rfl, M1⟩)
  clear hnew
  have hS := fun x e => (M1.sw x e)
  have hs1 := M1.keep.size
  go_loopw [13] (fun v wx => ∃ i : Nat, i ≤ l.length ∧ v = .int .i64 (i : Int) ∧ Sp w wx false q S (fun _ => False) 512 512 (foldT (l.take i) blank)) (fun v _ => l.length - (intOf v).toNat)
  case atStart => exact ⟨0, by omega, rfl, M1⟩
  case round =>
    clear M1
    obtain ⟨i, hi, rfl, M2⟩ := hrel
    by_cases hlt : i < l.length
    · obtain ⟨x, hx⟩ := get_rn hlt
      obtain ⟨g, o, rfl, c0, c1, c2⟩ := (hR.more M2.keep).at hx
      have hfx : Fits [x] := fun y hy => by simp at hy; subst hy; exact hf y (List.mem_of_getElem? hx)
      have K2 : Keep (fun _ => False) wr (wr.alloc (.cells #[.int .i64 x.lba, .int .i64 x.len, .int .i64 x.phys] 57)) := (Keep.refl _ _).alloc _
      have c := fun (n : Int) hn => fold_step (M2.more K2) hfx (n := n) hn
      have hnext : foldT (l.take (i + 1)) blank = fold1 (foldT (l.take i) blank) x := by
        rw [take_more hx, foldT_app]; rfl
      rw [← hnext] at c
      unfold fSet at c
      have di : (i : Int) < (l.length : Int) := by omega
      have dw := wrapI (x := (i : Int) + 1) (by omega) (by omega)
      have hlt' : Hid (i < l.length) := hlt
      clear hlt hf hend M2 K2 hfx hnext hx hR
      by_cases hm : wrap64 (512 - x.lba) < x.len
      · have c' := c (wrap64 (512 - x.lba)) (by omega)
        have hm2 : ¬ x.len ≤ wrap64 (512 - x.lba) := by omega
        clear c
        go_wp2_with fail
        refine c'.mono ?_
        rintro e w3 ⟨⟨v, rfl⟩, M3, k3⟩
        go_wp2_with fail
        go_roundw
        case rel => exact ⟨i + 1, hlt', by go_num, M3⟩
        case measure => have : i < l.length := hlt'; simp [intOf]; omega
      · have c' := c x.len (by omega)
        have hm2 : x.len ≤ wrap64 (512 - x.lba) := by omega
        clear c
        go_wp2_with fail
        refine c'.mono ?_
        rintro e w3 ⟨⟨v, rfl⟩, M3, k3⟩
        go_wp2_with fail
        go_roundw
        case rel => exact ⟨i + 1, hlt', by go_num, M3⟩
        case measure => have : i < l.length := hlt'; simp [intOf]; omega
    · have di : ¬ (i : Int) < (l.length : Int) := by omega
      have ei : i = l.length := by omega
      rw [ei, hend] at M2
      have c := M2.runs
      have HK := M2.keep
      rw [show refR (foldT l blank) 512 = foldR l from rfl] at c
      unfold fRuns at c
      clear hlt ei hend M2 hf hR
      go_wp2_with (go_at_call 21; refine c.mono ?_; rintro e w3 ⟨a', c', rfl, R3, k3, hg⟩)
      go_ret
      exact ⟨a', c', rfl, R3, HK.trans k3, fun g e => by have := hg g e; have := HK.size; omega⟩
end Tg
end Go.Proofs.Ytkddonmddgfpnaa
