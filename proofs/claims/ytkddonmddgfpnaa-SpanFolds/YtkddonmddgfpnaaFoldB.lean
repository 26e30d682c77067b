/-
  The document's own Fold.
-/
import Derived.Test.YtkddonmddgfpnaaFoldA
namespace Go.Proofs.Ytkddonmddgfpnaa
open Go.ChangeShapes Go.WideShapes Go.ChangeAt Go.RowKit
namespace Tg

set_option maxRecDepth 100000 in
set_option maxHeartbeats 2000000 in
theorem fold9 {w : World} {a : Option Addr} {cap : Nat} {l : List Rn} (hR : Rz w a cap l) (hf : Fits l) :
    Calls Try.prog 26 #[.slice a l.length cap] w fun e w' => ∃ a' c', e = .returned (.slice a' (foldR l).length c') ∧ Rr w w' a' c' (foldR l) := by
  have hlc := hR.1
  have hlc2 := hR.2.1
  have hnew := new9 (w := w) (C := 512) (by omega)
  rw [show ((512 : Nat) : Int) = 512 from rfl] at hnew
  have hend : l.take l.length = l := List.take_length
  go_enter Try.func26, Try.ntmps26
  go_upto_region 2 with (go_at_call 13; refine hnew.mono ?_; rintro e w1 ⟨a1, c, rfl, R1⟩)
  clear hnew
  obtain ⟨G, rfl, -⟩ := R1.is.at (i := 0) (by simp)
  have hc := R1.is.1
  rw [List.length_replicate] at hc
  go_wp2_with fail
  go_loopw [4] (fun v wx => ∃ i : Nat, i ≤ l.length ∧ v = .int .i64 (i : Int) ∧ Ri w wx (some ⟨G, 0, none⟩) c (foldT (l.take i) blank)) (fun v _ => l.length - (intOf v).toNat)
  case atStart => exact ⟨0, by omega, rfl, R1⟩
  case round =>
    clear R1
    obtain ⟨i, hi, rfl, R2⟩ := hrel
    by_cases hlt : i < l.length
    · obtain ⟨x, hx⟩ := get_rn hlt
      obtain ⟨g, o, rfl, c0, c1, c2⟩ := (hR.more R2.keep).at hx
      have hfx := hf x (List.mem_of_getElem? hx)
      have K2 : Keep (fun _ => False) wr (wr.alloc (.cells #[.int .i64 x.lba, .int .i64 x.len, .int .i64 x.phys] 57)) := (Keep.refl _ _).alloc _
      have L1 : Blk (wr.alloc (.cells #[.int .i64 x.lba, .int .i64 x.len, .int .i64 x.phys] 57)) wr.heap.size 3 (rcell x) := blk_alloc wr _ 57 3 _ (fun i hi => by
        have : i = 0 ∨ i = 1 ∨ i = 2 := by omega
        rcases this with rfl | rfl | rfl <;> rfl)
      have R3 := R2.more K2
      have hGp : Hid (¬ wr.heap.size = G) := by
        show ¬ wr.heap.size = G
        have := (R2.block rfl).2
        omega
      have hnext : foldT (l.take (i + 1)) blank = fold1 (foldT (l.take i) blank) x := by
        rw [take_more hx, foldT_app]; rfl
      have htl : (foldT (l.take i) blank).length = 512 := by rw [foldT_len, blank_len]
      have di : (i : Int) < (l.length : Int) := by omega
      have dw := wrapI (x := (i : Int) + 1) (by omega) (by omega)
      have hlt' : Hid (i < l.length) := hlt
      go_upto_region 6 with fail
      generalize wr.alloc (.cells #[.int .i64 x.lba, .int .i64 x.len, .int .i64 x.phys] 57) = w2 at K2 L1 R3 ⊢
      generalize wr.heap.size = Gp at L1 hGp ⊢
      have l0 : w2.cell? ⟨Gp, 0, none⟩ = some (.int .i64 x.lba) := (L1 0 (by omega)).1
      have l1 : w2.cell? ⟨Gp, 1, none⟩ = some (.int .i64 x.len) := (L1 1 (by omega)).1
      have l2 : w2.cell? ⟨Gp, 2, none⟩ = some (.int .i64 x.phys) := (L1 2 (by omega)).1
      clear c0 c1 c2 K2 R2 hlt hf hend hR hx
      generalize foldT (l.take i) blank = t at R3 hnext htl
      by_cases hs : Skip x
      · have hn : fold1 t x = t := by unfold fold1; rw [if_pos hs]
        rw [hn] at hnext
        unfold Skip at hs
        have R4 : Hid (Ri w w2 (some ⟨G, 0, none⟩) c (foldT (l.take (i + 1)) blank)) := by show Ri w w2 _ c _; rw [hnext]; exact R3
        clear hnext hn L1 R3 htl
        by_cases s1 : x.phys < 0
        · clear hs
          go_wp2_with fail
          go_roundw
          case rel => exact ⟨i + 1, hlt', by go_num, R4⟩
          case measure => have : i < l.length := hlt'; simp [intOf]; omega
        by_cases s2 : 1048576 < x.phys
        · clear hs
          go_wp2_with fail
          go_roundw
          case rel => exact ⟨i + 1, hlt', by go_num, R4⟩
          case measure => have : i < l.length := hlt'; simp [intOf]; omega
        by_cases s3 : x.len < 1
        · clear hs
          go_wp2_with fail
          go_roundw
          case rel => exact ⟨i + 1, hlt', by go_num, R4⟩
          case measure => have : i < l.length := hlt'; simp [intOf]; omega
        by_cases s4 : x.lba < 0
        · clear hs
          go_wp2_with fail
          go_roundw
          case rel => exact ⟨i + 1, hlt', by go_num, R4⟩
          case measure => have : i < l.length := hlt'; simp [intOf]; omega
        have s5 : 512 < x.lba := by omega
        clear hs
        go_wp2_with fail
        go_roundw
        case rel => exact ⟨i + 1, hlt', by go_num, R4⟩
        case measure => have : i < l.length := hlt'; simp [intOf]; omega
      · have hn : fold1 t x = putN t x.lba.toNat x.phys (clipN x) := by unfold fold1; rw [if_neg hs]
        rw [hn] at hnext
        have hcl := clip_in hs
        unfold Skip at hs
        have s1 : ¬ x.phys < 0 := by omega
        have s2 : ¬ 1048576 < x.phys := by omega
        have s3 : ¬ x.len < 1 := by omega
        have s4 : ¬ x.lba < 0 := by omega
        have s5 : ¬ 512 < x.lba := by omega
        have hcn : (clipN x : Int) = min x.len (512 - x.lba) := by unfold clipN; omega
        obtain ⟨L, eL⟩ : ∃ L : Nat, x.lba = (L : Int) := ⟨x.lba.toNat, by omega⟩
        have hLt : x.lba.toNat = L := by omega
        rw [hLt] at hnext hcl
        have hput : ∀ k, putN t L x.phys (k + 1) = (putN t L x.phys k).set (L + k) (x.phys + k) := fun k => by rw [putN, if_neg s1]
        have hnext' : Hid (foldT (l.take (i + 1)) blank = putN t L x.phys (clipN x)) := hnext
        have hpl : ∀ k, (putN t L x.phys k).length = 512 := fun k => by rw [putN_len]; exact htl
        clear hn hs hLt hnext
        generalize clipN x = M at hcn hcl hnext'
        go_wp2_with fail
        go_loopw [6] (fun v wx => ∃ k : Nat, k ≤ M ∧ v = .int .i64 (k : Int) ∧ Ri w wx (some ⟨G, 0, none⟩) c (putN t L x.phys k) ∧ Blk wx Gp 3 (rcell x)) (fun v _ => M - (intOf v).toNat)
        case atStart => exact ⟨0, by omega, rfl, R3, L1⟩
        case round =>
          clear R3 L1 l0 l1 l2
          obtain ⟨k, hk, rfl, R4, L4⟩ := hrel
          have l0 : wr.cell? ⟨Gp, 0, none⟩ = some (.int .i64 x.lba) := (L4 0 (by omega)).1
          have l1 : wr.cell? ⟨Gp, 1, none⟩ = some (.int .i64 x.len) := (L4 1 (by omega)).1
          have l2 : wr.cell? ⟨Gp, 2, none⟩ = some (.int .i64 x.phys) := (L4 2 (by omega)).1
          have dlk := wrapI (x := x.lba + (k : Int)) (by omega) (by omega)
          by_cases hkl : k < M
          · obtain ⟨g', eg, y0⟩ := R4.is.at (i := L + k) (by rw [hpl]; omega)
            injection eg with eg; injection eg with eg; subst eg
            have z0 := R4.fz (L + k)
            have R5 := R4.set (L + k) (x.phys + k)
            rw [← hput] at R5
            have L5 : Blk (wr.setCell ⟨G, L + k, none⟩ (.int .i64 (x.phys + k))) Gp 3 (rcell x) := L4.other (a := ⟨G, L + k, none⟩) hGp _
            have dk1 : (k : Int) < x.len := by omega
            have dk2 : x.lba + (k : Int) < 512 := by omega
            have dk3 : ¬ x.lba + (k : Int) < 0 := by omega
            have dk4 : (x.lba + (k : Int)).toNat = L + k := by omega
            have dk5 : (0 : Int) ≤ x.lba + (k : Int) := by omega
            have dwk := wrapI (x := (k : Int) + 1) (by omega) (by omega)
            have dp := wrapI (x := x.phys + (k : Int)) (by omega) (by omega)
            have hkl' : Hid (k < M) := hkl
            clear R4 L4 hkl hput hpl
            go_wp2_with fail
            go_roundw
            case rel => exact ⟨k + 1, hkl', by go_num, R5, L5⟩
            case measure => have : k < M := hkl'; simp [intOf]; omega
          · have ek : k = M := by omega
            rw [ek, ← show foldT (l.take (i + 1)) blank = putN t L x.phys M from hnext'] at R4
            by_cases dk1 : (k : Int) < x.len
            · have dk2 : ¬ x.lba + (k : Int) < 512 := by omega
              clear hkl ek hput hpl L4
              go_wp2_with fail
              go_roundw
              case rel => exact ⟨i + 1, hlt', by go_num, R4⟩
              case measure => have : i < l.length := hlt'; simp [intOf]; omega
            · clear hkl ek hput hpl L4
              go_wp2_with fail
              go_roundw
              case rel => exact ⟨i + 1, hlt', by go_num, R4⟩
              case measure => have : i < l.length := hlt'; simp [intOf]; omega
    · have di : ¬ (i : Int) < (l.length : Int) := by omega
      have ei : i = l.length := by omega
      rw [ei, hend] at R2
      have c9 := runs9 R2.is (by rw [foldT_len, blank_len]; omega) (foldT_ent _ blank_len blank_ent)
      rw [foldT_len, blank_len, show refR (foldT l blank) 512 = foldR l from rfl] at c9
      have HK := R2.keep
      clear hlt ei hend R2 hf hR
      go_wp2_with (go_at_call 15; refine c9.mono ?_; rintro e w3 ⟨a', c', rfl, R3⟩)
      go_ret
      exact ⟨a', c', rfl, R3.older HK⟩
end Tg
end Go.Proofs.Ytkddonmddgfpnaa
