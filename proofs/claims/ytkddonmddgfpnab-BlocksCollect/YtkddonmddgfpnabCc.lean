/-
  The landed cut of blocks, walked: runs cut where blocks end.
-/
import Derived.Test.YtkddonmddgfpnabCb
namespace Go.Proofs.Ytkddonmddgfpnab
open Go.ChangeShapes Go.WideShapes Go.ChangeAt Go.RowKit
namespace Tg
theorem spl_take_le {pages : Int} {l : List Rn} (h : Ft13 l) (i : Nat) : (splL pages (l.take i)).length ≤ 512 := by
  have e : splL pages l = splL pages (l.take i) ++ splL pages (l.drop i) := by
    unfold splL
    rw [← List.flatMap_append, List.take_append_drop]
  have := splL_512 (pages := pages) h
  rw [e, List.length_append] at this
  omega
/-- In the midst of a run that is cut. -/
def CutI (w : World) (l : List Rn) (pages : Int) (i G : Nat) (rv : Value) (wx : World) : Prop := ∃ (y : Rn) (B' : List Rn) (n c' : Nat) (a' : Option Addr), rv = .slice a' n c' ∧ Hid (n = B'.length) ∧ Rr w wx a' c' B' ∧ Hid (B' ++ parts pages y = splL pages (l.take (i + 1))) ∧ Lrn wx G y ∧ Hid (0 ≤ y.lba ∧ 0 ≤ y.len ∧ y.lba + y.len ≤ 512 ∧ 0 ≤ y.phys ∧ y.phys + y.len ≤ 1073742336) ∧ Hid (∀ g, a' = some ⟨g, 0, none⟩ → g ≠ G) ∧ Hid (G < wx.heap.size)
/-- How long the run is that is left. -/
def lenAt (wx : World) (G : Nat) : Nat := (intOf ((wx.cell? ⟨G, 1, none⟩).getD undef)).toNat
theorem lenAt_of {wx : World} {G : Nat} {y : Rn} (h : Lrn wx G y) : lenAt wx G = y.len.toNat := by
  unfold lenAt
  rw [(h 1 (by omega)).1]
  simp [rcell, intOf]
set_option maxRecDepth 100000 in
set_option maxHeartbeats 1000000 in
theorem cut_any {w : World} {a : Option Addr} {cap : Nat} {l : List Rn} (hR : Rz w a cap l) (hF : Ft13 l) {pages : Int} (hp : 1 ≤ pages ∧ pages ≤ 32) :
    Calls Try.prog 24 #[.slice a l.length cap, .int .i64 pages] w fun e w' => ∃ a' c', e = .returned (.slice a' (splL pages l).length c') ∧ Rr w w' a' c' (splL pages l) := by
  have hlc := hR.1
  have hlc2 := hR.2.1
  have hl5 := hF.len
  obtain ⟨m, hm⟩ : ∃ m, m = l.length := ⟨_, rfl⟩
  have hm' : Hid (m = l.length) := hm
  rw [← hm] at hlc hl5 ⊢
  clear hm
  have R0 : Rr w w none 0 (splL pages (l.take 0)) := Rr.nil w
  have hp0 : ¬ pages = 0 := by omega
  go_enter Try.func24, Try.ntmps24
  go_wp2_with fail
  go_loopw [5, 11] (fun rv v wx => ∃ (i n c' : Nat) (a' : Option Addr), i ≤ m ∧ v = .int .i64 (i : Int) ∧ rv = .slice a' n c' ∧ Hid (n = (splL pages (l.take i)).length) ∧ Rr w wx a' c' (splL pages (l.take i))) (fun _ v _ => m - (intOf v).toNat)
  case atStart => exact ⟨0, 0, 0, _, by omega, rfl, rfl, rfl, R0⟩
  case round =>
    clear R0
    obtain ⟨i, n, c', a', hi, rfl, rfl, hn, R1⟩ := hrel
    by_cases hlt : i < m
    · obtain ⟨x, hx⟩ := get_rn (m := l) (i := i) (by rw [← show m = l.length from hm']; exact hlt)
      have hb := hF.bd (List.mem_of_getElem? hx)
      obtain ⟨g, o, rfl, x0, x1, x2⟩ := (hR.more R1.keep).at hx
      have di : (i : Int) < (m : Int) := by omega
      have dw := wrapI (x := (i : Int) + 1) (by omega) (by omega)
      have hlt' : Hid (i < m) := hlt
      have hsl : Hid ((splL pages (l.take (i + 1))).length ≤ 512) := spl_take_le hF _
      have hend : Hid (splL pages (l.take i) ++ parts pages x = splL pages (l.take (i + 1))) := (spl_take hx).symm
      have K2 : Keep (fun _ => False) wr (wr.alloc (.cells #[.int .i64 x.lba, .int .i64 x.len, .int .i64 x.phys] 35)) := (Keep.refl _ _).alloc _
      have L1 : Lrn (wr.alloc (.cells #[.int .i64 x.lba, .int .i64 x.len, .int .i64 x.phys] 35)) wr.heap.size x := Lrn.new wr x
      have R2 := R1.more K2
      have hG0 : Hid (w.heap.size ≤ wr.heap.size) := R1.keep.size
      have hG1 : Hid (wr.heap.size < (wr.alloc (.cells #[.int .i64 x.lba, .int .i64 x.len, .int .i64 x.phys] 35)).heap.size) := Blk.lt L1 (by omega)
      have hG2 : Hid (∀ g, a' = some ⟨g, 0, none⟩ → g ≠ wr.heap.size) := fun g e => by have := (R1.block e).2; omega
      have hbl : Hid (0 ≤ x.lba ∧ 0 ≤ x.len ∧ x.lba + x.len ≤ 512 ∧ 0 ≤ x.phys ∧ x.phys + x.len ≤ 1073742336) := by show _ ∧ _; omega
      clear hlt hx R1 hb
      generalize splL pages (l.take i) = B at hend R2 hn
      go_wp2_with fail
      generalize wr.alloc (.cells #[.int .i64 x.lba, .int .i64 x.len, .int .i64 x.phys] 35) = w2 at K2 L1 R2 hG1 ⊢
      generalize wr.heap.size = G at L1 hG0 hG1 hG2 ⊢
      go_loopw [5] (fun rv wx => CutI w l pages i G rv wx) (fun _ wx => lenAt wx G)
      case atStart => exact ⟨x, B, n, c', a', rfl, hn, R2, hend, L1, hbl, hG2, hG1⟩
      case round =>
        clear R2 hend L1 hbl hG2 hG1 hn x0 x1 x2 K2
        obtain ⟨y, B', n, c', a', rfl, hn, R, hend, L, hbl, hG2, hG1⟩ := hrel
        have hy := show 0 ≤ y.lba ∧ 0 ≤ y.len ∧ y.lba + y.len ≤ 512 ∧ 0 ≤ y.phys ∧ y.phys + y.len ≤ 1073742336 from hbl
        have hpt : Hid (B'.length ≤ 512) := by
          have h1 := show (splL pages (l.take (i + 1))).length ≤ 512 from hsl
          rw [← show B' ++ parts pages y = _ from hend, List.length_append] at h1
          show _ ≤ _
          omega
        have c0 : wr.cell? ⟨G, 0, none⟩ = some (.int .i64 y.lba) := (L 0 (by omega)).1
        have c1 : wr.cell? ⟨G, 1, none⟩ = some (.int .i64 y.len) := (L 1 (by omega)).1
        have c2 : wr.cell? ⟨G, 2, none⟩ = some (.int .i64 y.phys) := (L 2 (by omega)).1
        by_cases hle : 0 < y.len
        · obtain ⟨r, hr⟩ : ∃ r, r = y.phys % pages := ⟨_, rfl⟩
          have hm0 : 0 ≤ r ∧ r < pages := by rw [hr]; exact ⟨Int.emod_nonneg _ (by omega), Int.emod_lt_of_pos _ (by omega)⟩
          have f3 : y.phys.tmod pages = r := by rw [Int.tmod_eq_emod_of_nonneg (by omega)]; exact hr.symm
          have f4 : IntKind.i64.wrap r = r := wrapI (by omega) (by omega)
          obtain ⟨p, hpr⟩ : ∃ p, p = pages - r := ⟨_, rfl⟩
          have f5 : IntKind.i64.wrap (pages - r) = p := by rw [hpr]; exact wrapI (by omega) (by omega)
          have hp1 : 1 ≤ p := by omega
          have q1 : 0 < y.len := hle
          by_cases hmn : y.len ≤ p
          · have hcut := parts_cons (pages := pages) (by omega) (x := y) hy.2.2.2.1 (by omega) (n := y.len) (by rw [← hr]; omega)
            rw [show y.len - y.len = 0 by omega] at hcut
            have n1 : 1 ≤ y.len ∧ y.len ≤ y.len := by omega
            have q2 : ¬ p < y.len := by omega
            have hz : Hid (0 ≤ y.lba ∧ 0 ≤ y.len ∧ y.lba + y.len ≤ 512 ∧ 0 ≤ y.phys ∧ y.phys + y.len ≤ 1073742336) := hy
            have n1' : Hid (1 ≤ y.len ∧ y.len ≤ y.len) := n1
            have hcut' : Hid (parts pages y = ⟨y.lba, y.len, y.phys⟩ :: parts pages ⟨y.lba + y.len, 0, y.phys + y.len⟩) := hcut
            clear hcut n1 hpr hy hm0 hr
            go_wp2_with fail
            go_quiet (fail)
            have hy := show 0 ≤ y.lba ∧ 0 ≤ y.len ∧ y.lba + y.len ≤ 512 ∧ 0 ≤ y.phys ∧ y.phys + y.len ≤ 1073742336 from hz
            have n1 := show 1 ≤ y.len ∧ y.len ≤ y.len from n1'
            have hcut := show parts pages y = ⟨y.lba, y.len, y.phys⟩ :: parts pages ⟨y.lba + y.len, 0, y.phys + y.len⟩ from hcut'
            have kd : Keep (fun _ => False) wr (wr.drewN nq) := (Keep.refl _ _).drewN _
            generalize wr.drewN nq = wd at kd ⊢
            have Ld := L.more kd
            have c0 : wd.cell? ⟨G, 0, none⟩ = some (.int .i64 y.lba) := (Ld 0 (by omega)).1
            have c1 : wd.cell? ⟨G, 1, none⟩ = some (.int .i64 y.len) := (Ld 1 (by omega)).1
            have c2 : wd.cell? ⟨G, 2, none⟩ = some (.int .i64 y.phys) := (Ld 2 (by omega)).1
            obtain ⟨a5, c5, w5, happ, R5, K5, h5⟩ := (R.more kd).appS (by have := show B'.length ≤ 512 from hpt; omega) ⟨y.lba, y.len, y.phys⟩
            rw [← show n = B'.length from hn] at happ
            have L5 : Lrn w5 G y := Blk.keep (L.more kd) K5 (fun e => (show ∀ g, a' = some ⟨g, 0, none⟩ → g ≠ G from hG2) G e rfl)
            have e0 : w5.cell? ⟨G, 0, none⟩ = some (.int .i64 y.lba) := (L5 0 (by omega)).1
            have e1 : w5.cell? ⟨G, 1, none⟩ = some (.int .i64 y.len) := (L5 1 (by omega)).1
            have e2 : w5.cell? ⟨G, 2, none⟩ = some (.int .i64 y.phys) := (L5 2 (by omega)).1
            have hG5 : ∀ g, a5 = some ⟨g, 0, none⟩ → g ≠ G := fun g e => by
              rcases h5 with rfl | ⟨g5, rfl, hg5⟩
              · exact (show ∀ g, a5 = some ⟨g, 0, none⟩ → g ≠ G from hG2) g e
              · injection e with e
                injection e with e
                have : G < wr.heap.size := hG1
                have := kd.size
                omega
            obtain ⟨w6, hst, L6, K6⟩ := L5.over ⟨y.lba + y.len, 0, y.phys + y.len⟩
            have R6 := R5.other K6 (fun g e e2 => hG5 g e e2) (fun x e => by have : w.heap.size ≤ G := hG0; have e : x = G := e; omega)
            have hG6 : Hid (∀ g, a5 = some ⟨g, 0, none⟩ → g ≠ G) := hG5
            have hG7 : Hid (G < w6.heap.size) := Blk.lt L6 (by omega)
            have hn6 : Hid (n + 1 = (B' ++ [(⟨y.lba, y.len, y.phys⟩ : Rn)]).length) := by show _ = _; rw [List.length_append, ← show n = B'.length from hn]; rfl
            have hend6 : Hid ((B' ++ [(⟨y.lba, y.len, y.phys⟩ : Rn)]) ++ parts pages ⟨y.lba + y.len, 0, y.phys + y.len⟩ = splL pages (l.take (i + 1))) := by
              show _ = _
              rw [← show B' ++ parts pages y = _ from hend, hcut, List.append_assoc]
              rfl
            have hbl6 : Hid (0 ≤ y.lba + y.len ∧ (0 : Int) ≤ 0 ∧ y.lba + y.len + (0) ≤ 512 ∧ 0 ≤ y.phys + y.len ∧ y.phys + y.len + (0) ≤ 1073742336) := by show _ ∧ _; omega
            have m1 : Hid (lenAt w6 G = (0 : Int).toNat) := lenAt_of L6
            have m0 : Hid (lenAt wr G = y.len.toNat) := lenAt_of L
            have hle' : Hid (1 ≤ y.len ∧ y.len ≤ y.len) := n1
            have g0 := wrapI (x := y.lba + y.len) (by omega) (by omega)
            have g1 := wrapI (x := 0) (by omega) (by omega)
            have g2 := wrapI (x := y.phys + y.len) (by omega) (by omega)
            clear hcut n1 R L5 K5 h5 hG5 R5 K6 hy hend hbl hG2 hG1 hpt hn L Ld hle kd hz n1' hcut'
            go_wp2_with (first | (guard_target =~ wpList _ _ _ (Oper.mk _ (Op.store 35 _ _) _ _ _ _ :: _) _ _; refine wpList_store_run rfl 35 (.tmp 7) (.tmp 48) rfl (by rfl) (by rfl) hst ?_) | (at_builtin; refine wpList_append_run rfl (.tmp 27) (.tmp 34) 27 rfl (by rfl) (by rfl) happ ?_))
            go_roundw
            case rel => exact ⟨_, _, n + 1, c5, a5, rfl, hn6, R6, hend6, L6, hbl6, hG6, hG7⟩
            case measure =>
              have h1 := show lenAt w6 G = (0 : Int).toNat from m1
              have h2 := show lenAt wr G = y.len.toNat from m0
              have : 1 ≤ y.len ∧ y.len ≤ y.len := hle'
              show lenAt w6 G < lenAt wr G
              omega
          · have hcut := parts_cons (pages := pages) (by omega) (x := y) hy.2.2.2.1 (by omega) (n := p) (by rw [← hr]; omega)
            rw [show y.len - p = y.len - p by omega] at hcut
            have n1 : 1 ≤ p ∧ p ≤ y.len := by omega
            have q2 : p < y.len := by omega
            have hz : Hid (0 ≤ y.lba ∧ 0 ≤ y.len ∧ y.lba + y.len ≤ 512 ∧ 0 ≤ y.phys ∧ y.phys + y.len ≤ 1073742336) := hy
            have n1' : Hid (1 ≤ p ∧ p ≤ y.len) := n1
            have hcut' : Hid (parts pages y = ⟨y.lba, p, y.phys⟩ :: parts pages ⟨y.lba + p, y.len - p, y.phys + p⟩) := hcut
            clear hcut n1 hpr hy hm0 hr
            go_wp2_with fail
            go_quiet (fail)
            have hy := show 0 ≤ y.lba ∧ 0 ≤ y.len ∧ y.lba + y.len ≤ 512 ∧ 0 ≤ y.phys ∧ y.phys + y.len ≤ 1073742336 from hz
            have n1 := show 1 ≤ p ∧ p ≤ y.len from n1'
            have hcut := show parts pages y = ⟨y.lba, p, y.phys⟩ :: parts pages ⟨y.lba + p, y.len - p, y.phys + p⟩ from hcut'
            have kd : Keep (fun _ => False) wr (wr.drewN nq) := (Keep.refl _ _).drewN _
            generalize wr.drewN nq = wd at kd ⊢
            have Ld := L.more kd
            have c0 : wd.cell? ⟨G, 0, none⟩ = some (.int .i64 y.lba) := (Ld 0 (by omega)).1
            have c1 : wd.cell? ⟨G, 1, none⟩ = some (.int .i64 y.len) := (Ld 1 (by omega)).1
            have c2 : wd.cell? ⟨G, 2, none⟩ = some (.int .i64 y.phys) := (Ld 2 (by omega)).1
            obtain ⟨a5, c5, w5, happ, R5, K5, h5⟩ := (R.more kd).appS (by have := show B'.length ≤ 512 from hpt; omega) ⟨y.lba, p, y.phys⟩
            rw [← show n = B'.length from hn] at happ
            have L5 : Lrn w5 G y := Blk.keep (L.more kd) K5 (fun e => (show ∀ g, a' = some ⟨g, 0, none⟩ → g ≠ G from hG2) G e rfl)
            have e0 : w5.cell? ⟨G, 0, none⟩ = some (.int .i64 y.lba) := (L5 0 (by omega)).1
            have e1 : w5.cell? ⟨G, 1, none⟩ = some (.int .i64 y.len) := (L5 1 (by omega)).1
            have e2 : w5.cell? ⟨G, 2, none⟩ = some (.int .i64 y.phys) := (L5 2 (by omega)).1
            have hG5 : ∀ g, a5 = some ⟨g, 0, none⟩ → g ≠ G := fun g e => by
              rcases h5 with rfl | ⟨g5, rfl, hg5⟩
              · exact (show ∀ g, a5 = some ⟨g, 0, none⟩ → g ≠ G from hG2) g e
              · injection e with e
                injection e with e
                have : G < wr.heap.size := hG1
                have := kd.size
                omega
            obtain ⟨w6, hst, L6, K6⟩ := L5.over ⟨y.lba + p, y.len - p, y.phys + p⟩
            have R6 := R5.other K6 (fun g e e2 => hG5 g e e2) (fun x e => by have : w.heap.size ≤ G := hG0; have e : x = G := e; omega)
            have hG6 : Hid (∀ g, a5 = some ⟨g, 0, none⟩ → g ≠ G) := hG5
            have hG7 : Hid (G < w6.heap.size) := Blk.lt L6 (by omega)
            have hn6 : Hid (n + 1 = (B' ++ [(⟨y.lba, p, y.phys⟩ : Rn)]).length) := by show _ = _; rw [List.length_append, ← show n = B'.length from hn]; rfl
            have hend6 : Hid ((B' ++ [(⟨y.lba, p, y.phys⟩ : Rn)]) ++ parts pages ⟨y.lba + p, y.len - p, y.phys + p⟩ = splL pages (l.take (i + 1))) := by
              show _ = _
              rw [← show B' ++ parts pages y = _ from hend, hcut, List.append_assoc]
              rfl
            have hbl6 : Hid (0 ≤ y.lba + p ∧ (0 : Int) ≤ y.len - p ∧ y.lba + p + (y.len - p) ≤ 512 ∧ 0 ≤ y.phys + p ∧ y.phys + p + (y.len - p) ≤ 1073742336) := by show _ ∧ _; omega
            have m1 : Hid (lenAt w6 G = (y.len - p : Int).toNat) := lenAt_of L6
            have m0 : Hid (lenAt wr G = y.len.toNat) := lenAt_of L
            have hle' : Hid (1 ≤ p ∧ p ≤ y.len) := n1
            have g0 := wrapI (x := y.lba + p) (by omega) (by omega)
            have g1 := wrapI (x := y.len - p) (by omega) (by omega)
            have g2 := wrapI (x := y.phys + p) (by omega) (by omega)
            clear hcut n1 R L5 K5 h5 hG5 R5 K6 hy hend hbl hG2 hG1 hpt hn L Ld hle kd hz n1' hcut'
            go_wp2_with (first | (guard_target =~ wpList _ _ _ (Oper.mk _ (Op.store 35 _ _) _ _ _ _ :: _) _ _; refine wpList_store_run rfl 35 (.tmp 7) (.tmp 48) rfl (by rfl) (by rfl) hst ?_) | (at_builtin; refine wpList_append_run rfl (.tmp 27) (.tmp 34) 27 rfl (by rfl) (by rfl) happ ?_))
            go_roundw
            case rel => exact ⟨_, _, n + 1, c5, a5, rfl, hn6, R6, hend6, L6, hbl6, hG6, hG7⟩
            case measure =>
              have h1 := show lenAt w6 G = (y.len - p : Int).toNat from m1
              have h2 := show lenAt wr G = y.len.toNat from m0
              have : 1 ≤ p ∧ p ≤ y.len := hle'
              show lenAt w6 G < lenAt wr G
              omega
        · have q1 : ¬ 0 < y.len := hle
          have hpn := parts_nil (pages := pages) (x := y) (by omega)
          have hB : B' = splL pages (l.take (i + 1)) := by rw [← show B' ++ parts pages y = _ from hend, hpn, List.append_nil]
          rw [hB] at R hn
          clear hle hy hend hpn hB hpt L hbl hG2 hG1
          go_wp2_with fail
          go_roundw
          case rel => exact ⟨i + 1, n, c', a', hlt', by go_num, rfl, hn, R⟩
          case measure => have : i < m := hlt'; simp [intOf]; omega
    · have di : ¬ (i : Int) < (m : Int) := by omega
      rw [List.take_of_length_le (by rw [← show m = l.length from hm']; omega)] at R1 hn
      clear hlt
      go_wp2_with fail
      go_ret
      exact ⟨a', c', by rw [← show n = _ from hn]; rfl, R1⟩
end Tg
end Go.Proofs.Ytkddonmddgfpnab
