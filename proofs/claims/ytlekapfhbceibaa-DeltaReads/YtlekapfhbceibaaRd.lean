/-
  DeltaReads' body, walked.
-/
import Derived.Test.YtlekapfhbceibaaOp
import Derived.Deep.CutRange
namespace Go.Proofs.Ytlekapfhbceibaa
open Go.ChangeShapes Go.WideShapes Go.ChangeAt Go.RowKit
namespace Tg
open Vi
/-- So many bytes of one's own. -/
def Hb (w wx : World) (g c n : Nat) : Prop := ∃ l, Gr w wx g c l ∧ l.length = n ∧ 1 ≤ n ∧ n ≤ 100000
theorem Hb.more {w wx w2 : World} {g c n : Nat} (h : Hb w wx g c n) (k : Keep (fun _ => False) wx w2) : Hb w w2 g c n := by
  obtain ⟨l, h1, h2⟩ := h
  exact ⟨l, h1.more k, h2⟩
theorem Hb.older {w0 w wx : World} {g c n : Nat} (h : Hb w wx g c n) (k : Keep (fun _ => False) w0 w) : Hb w0 wx g c n := by
  obtain ⟨l, h1, h2⟩ := h
  exact ⟨l, ⟨h1.row, h1.free, Nat.le_trans k.size h1.new, k.trans h1.keep⟩, h2⟩
theorem Hb.lt {w wx : World} {g c n : Nat} (h : Hb w wx g c n) : g < wx.heap.size := by
  obtain ⟨l, h1, h2, h3, h4⟩ := h
  exact h1.lt (by omega)
theorem Hb.len {w wx : World} {g c n : Nat} (h : Hb w wx g c n) : 1 ≤ n ∧ n ≤ 100000 ∧ n ≤ c ∧ c ≤ 9223372036854775807 := by
  obtain ⟨l, h1, h2, h3, h4⟩ := h
  exact ⟨h3, h4, by rw [← h2]; exact h1.row.2.1, h1.row.2.2.1⟩
theorem Hb.keep {w wx : World} {g c n : Nat} (h : Hb w wx g c n) : Keep (fun _ => False) w wx := by
  obtain ⟨l, h1, h2⟩ := h
  exact h1.keep
theorem Hb.new {w wx : World} {g c n : Nat} (h : Hb w wx g c n) : w.heap.size ≤ g := by
  obtain ⟨l, h1, h2⟩ := h
  exact h1.new
/-- A byte is stored in it; beside it another one stays. -/
theorem Hb.set {w wx : World} {g c n : Nat} (h : Hb w wx g c n) {i : Nat} (hi : i < n) {v : Int} (hv : 0 ≤ v ∧ v ≤ 255) : Hb w (wx.setCell ⟨g, i, none⟩ (.int .u8 v)) g c n := by
  obtain ⟨l, h1, h2, h3⟩ := h
  have hr := h1.row
  rw [h2] at hr
  have := hr.set hi hv
  refine ⟨l.set i v, ⟨?_, h1.free.set _ _, h1.new, ?_⟩, by rw [List.length_set, h2], h3⟩
  · rw [List.length_set, h2]; exact this
  · exact h1.keep.setCell (Or.inr h1.new) _
theorem Hb.beside {w wx : World} {g c n g2 : Nat} (h : Hb w wx g c n) (hg : g ≠ g2) (h2 : w.heap.size ≤ g2) (i : Nat) (v : Value) : Hb w (wx.setCell ⟨g2, i, none⟩ v) g c n := by
  obtain ⟨l, h1, h3⟩ := h
  exact ⟨l, h1.other (S := fun b => b = g2) ((Keep.refl (fun b => b = g2) wx).setCell (p := ⟨g2, i, none⟩) (Or.inl rfl) v) hg (fun x e => by omega), h3⟩
theorem Hb.cell {w wx : World} {g c n : Nat} (h : Hb w wx g c n) {i : Nat} (hi : i < n) : (∃ v, wx.cell? ⟨g, i, none⟩ = some v) ∧ wx.frozen? ⟨g, i, none⟩ = false := by
  obtain ⟨l, h1, h2, h3⟩ := h
  have hc := h1.row.2.1
  exact ⟨⟨_, h1.row.cellAt (by omega)⟩, (h1.free i (by omega)).2⟩
theorem Hb.row {w wx : World} {g c n : Nat} (h : Hb w wx g c n) {k : Nat} (hk : k ≤ n) : ∃ l, Row wx (some ⟨g, 0, none⟩) k c l := by
  obtain ⟨l, h1, h2, h3⟩ := h
  have hr := h1.row
  rw [h2] at hr
  exact ⟨_, hr.first hk⟩
theorem Hb.lit (w : World) : Hb w (w.alloc (.cells #[.int .u8 0] 5)) w.heap.size 1 1 := ⟨[0], Gr.lit w (by omega), rfl, by omega, by omega⟩
theorem rec_short {l : List Rn} (h : MayL l) (h6 : l.length ≤ 512) : 1 ≤ (recL l).length ∧ (recL l).length ≤ 100000 := by
  have h2 := rec_len l (lb := 0) (ph := 0) h.2 (by omega) (by omega) (by omega) (by omega)
  have h3 : (vb (l.length : Int)).length ≤ 10 := vb_ten (by omega)
  have h4 : 1 ≤ (vb (l.length : Int)).length := vb_pos _
  unfold recL
  rw [List.length_append]
  omega
theorem sn_short1 {l : List Rn} (h : FitL l) : 1 ≤ (snL l).length ∧ (snL l).length ≤ 100000 := by
  have h2 := short_all h
  have h3 := rec_short h.may h.1
  have h4 : 1 ≤ (vb (l.length : Int)).length := vb_pos _
  refine ⟨?_, by omega⟩
  unfold snL
  rw [List.length_append]
  omega
set_option maxRecDepth 100000 in
set_option maxHeartbeats 2000000 in
theorem reads_walk {w : World} {a0 a1 a2 : Option Addr} {n0 c0 c1 c2 : Nat} {b : List Int} {l p : List Rn} (hr : Row w a0 n0 c0 b) (hlen : n0 ≤ 140737488355000) (hL : Rz w a1 c1 l) (hP : Rz w a2 c2 p) (hfp : Fits p) (at_ put cut : Int) (hput : 0 ≤ put ∧ put ≤ 255) :
    Calls Try.prog 5 #[.slice a0 n0 c0, .slice a1 l.length c1, .slice a2 p.length c2, .int .i64 at_, .int .u8 put, .int .i64 cut] w fun e w' => e = .returned (.bool true) ∧ Keep (fun _ => False) w w' := by
  have HR := fun {w' : World} {a : Option Addr} {len cap : Nat} {b : List Int} (h : Row w' a len cap b) (h2 : len ≤ 140737488355000) => reads_any changes_ok runs_ok h h2
  have l1 := hL.1
  have l2 := hL.2.1
  have l3 := hP.1
  have l4 := hP.2.1
  go_enter Try.func5, Try.ntmps5
  go_wp2_with fail
  refine (awake_ok w).mono ?_
  rintro e w1 ⟨rfl, k1⟩
  go_wp2_with fail
  refine (HR (hr.moreV k1) hlen).mono ?_
  rintro e w2 ⟨rfl, k2⟩
  have kk := k1.trans k2
  clear k1 k2 hr
  by_cases hb1 : 60 < l.length
  · have q1 : (60 : Int) < (l.length : Int) := by omega
    go_wp2_with fail
    go_ret
    exact ⟨rfl, kk⟩
  by_cases hb2 : 60 < p.length
  · have q1 : ¬ (60 : Int) < (l.length : Int) := by omega
    have q2 : (60 : Int) < (p.length : Int) := by omega
    go_wp2_with fail
    go_ret
    exact ⟨rfl, kk⟩
  have q1 : ¬ (60 : Int) < (l.length : Int) := by omega
  have q2 : ¬ (60 : Int) < (p.length : Int) := by omega
  have hl6 : l.length ≤ 512 := by omega
  clear hb1 hb2
  have X0 := (Hb.lit w2).older kk
  go_upto_region 6 with fail
  have hmay := fun {w'} (k : Keep (fun _ => False) w w') => may_any (hL.more k)
  go_wp2_with fail
  refine (hmay X0.keep).mono ?_
  rintro e w3 ⟨rfl, k3⟩
  go_upto_if 33 with fail
  go_cut [13] from 16 to 94 (fun xv wx => ∃ g c n, xv = .slice (some ⟨g, 0, none⟩) n c ∧ Hb w wx g c n)
  case first =>
    have X3 := X0.more k3
    cases hm : mayB l with
    | false =>
      go_wp2_with fail
      go_meet
      exact ⟨_, _, _, rfl, X3⟩
    | true =>
      have hml := mayB_iff.1 hm
      have hsh := rec_short hml hl6
      go_wp2_with fail
      refine (record_any (hL.more X3.keep) hml).mono ?_
      rintro e w4 ⟨g4, c4, rfl, G4⟩
      go_wp2_with fail
      go_meet
      exact ⟨_, _, _, rfl, Hb.older ⟨_, G4, rfl, hsh⟩ X3.keep⟩
  case rest =>
    obtain ⟨g1, d1, n1, rfl, X1⟩ := hcut
    clear X0 k3 hmay hL l1 l2 hl6 q1
    have hfo := fold9 (hP.more X1.keep) hfp
    have hff := foldR_fits p
    go_wp2_with fail
    refine hfo.mono ?_
    rintro e w5 ⟨a5, c5, rfl, R5⟩
    have X5 := X1.more R5.keep
    have Y0 := (Hb.lit w5).older X5.keep
    have X6 := X5.more ((Keep.refl _ w5).alloc (.cells #[.int .u8 0] 5))
    have hne0 : g1 ≠ w5.heap.size := Nat.ne_of_lt X5.lt
    have Rz6 := (R5.more ((Keep.refl _ w5).alloc (.cells #[.int .u8 0] 5))).rs.rz
    have hfi := fits_any Rz6
    generalize hg0 : w5.heap.size = g0 at Y0 hne0
    clear hfo X5 hP l3 l4 q2
    go_wp2_with fail
    generalize w5.alloc (.cells #[.int .u8 0] 5) = w6 at Y0 X6 Rz6 hfi
    refine hfi.mono ?_
    rintro e w7 ⟨rfl, k7⟩
    go_upto_if 40 with fail
    go_cut [15] from 16 to 94 (fun yv wx => ∃ g c n, yv = .slice (some ⟨g, 0, none⟩) n c ∧ Hb w wx g1 d1 n1 ∧ Hb w wx g c n ∧ g1 ≠ g)
    case first =>
      have X7 := X6.more k7
      have Y7 := Y0.more k7
      cases hm : fitB (foldR p) with
      | false =>
        go_wp2_with fail
        go_meet
        exact ⟨_, _, _, rfl, X7, Y7, hne0⟩
      | true =>
        have hml := fitB_iff.1 hm
        have hsh := sn_short1 hml
        go_wp2_with fail
        refine (snapshot_any (Rz6.more k7) hml).mono ?_
        rintro e w8 ⟨g8, c8, rfl, G8⟩
        go_wp2_with fail
        go_meet
        exact ⟨_, _, _, rfl, X7.more G8.keep, Hb.older ⟨_, G8, rfl, hsh⟩ X7.keep, by have := X7.lt; have := G8.new; omega⟩
    case rest =>
      obtain ⟨g2, d2, n2, rfl, X8, Y8, hne⟩ := hcut
      clear Y0 X6 X1 Rz6 hfi k7 hne0 hg0 R5 hff
      have hlx := X8.len
      have hly := Y8.len
      obtain ⟨x1, x2, x3, x4⟩ := hlx
      obtain ⟨y1, y2, y3, y4⟩ := hly
      go_upto_region 12 with fail
      go_cut [50] from 16 to 94 (fun v wx => v = .bool (decide (0 ≤ at_ ∧ at_ < (n1 : Int))) ∧ Hb w wx g1 d1 n1 ∧ Hb w wx g2 d2 n2)
      case first =>
        clear HR
        by_cases h1 : 0 ≤ at_
        · by_cases h2 : at_ < (n1 : Int)
          · have hd : decide (0 ≤ at_ ∧ at_ < (n1 : Int)) = true := decide_eq_true ⟨h1, h2⟩
            go_wp2_with fail
            go_meet
            exact ⟨congrArg Value.bool hd.symm, X8, Y8⟩
          · have hd : decide (0 ≤ at_ ∧ at_ < (n1 : Int)) = false := decide_eq_false (fun h => h2 h.2)
            go_wp2_with fail
            go_meet
            exact ⟨congrArg Value.bool hd.symm, X8, Y8⟩
        · have hd : decide (0 ≤ at_ ∧ at_ < (n1 : Int)) = false := decide_eq_false (fun h => h1 h.1)
          go_wp2_with fail
          go_meet
          exact ⟨congrArg Value.bool hd.symm, X8, Y8⟩
      case rest =>
        obtain ⟨rfl, X9, Y9⟩ := hcut
        clear X8 Y8
        go_upto_if 50 with fail
        go_cut [13] from 16 to 94 (fun xv wx => xv = .slice (some ⟨g1, 0, none⟩) n1 d1 ∧ Hb w wx g1 d1 n1 ∧ Hb w wx g2 d2 n2)
        case first =>
          clear HR
          by_cases hc : 0 ≤ at_ ∧ at_ < (n1 : Int)
          · rw [decide_eq_true hc]
            obtain ⟨h1, h2⟩ := hc
            obtain ⟨i, rfl⟩ := Int.eq_ofNat_of_zero_le h1
            have h2' : i < n1 := by omega
            obtain ⟨⟨u, hu⟩, hf⟩ := X9.cell h2'
            have M := X9.set h2' hput
            have O := Y9.beside (Ne.symm hne) X9.new i (.int .u8 put)
            go_wp2_with fail
            go_meet
            exact ⟨rfl, M, O⟩
          · rw [decide_eq_false hc]
            clear hc
            go_wp2_with fail
            go_meet
            exact ⟨rfl, X9, Y9⟩
        case rest =>
          obtain ⟨rfl, X10, Y10⟩ := hcut
          clear X9 Y9
          go_upto_region 14 with fail
          go_cut [62] from 16 to 94 (fun v wx => v = .bool (decide (0 ≤ at_ ∧ at_ < (n2 : Int))) ∧ Hb w wx g1 d1 n1 ∧ Hb w wx g2 d2 n2)
          case first =>
            clear HR
            by_cases h1 : 0 ≤ at_
            · by_cases h2 : at_ < (n2 : Int)
              · have hd : decide (0 ≤ at_ ∧ at_ < (n2 : Int)) = true := decide_eq_true ⟨h1, h2⟩
                go_wp2_with fail
                go_meet
                exact ⟨congrArg Value.bool hd.symm, X10, Y10⟩
              · have hd : decide (0 ≤ at_ ∧ at_ < (n2 : Int)) = false := decide_eq_false (fun h => h2 h.2)
                go_wp2_with fail
                go_meet
                exact ⟨congrArg Value.bool hd.symm, X10, Y10⟩
            · have hd : decide (0 ≤ at_ ∧ at_ < (n2 : Int)) = false := decide_eq_false (fun h => h1 h.1)
              go_wp2_with fail
              go_meet
              exact ⟨congrArg Value.bool hd.symm, X10, Y10⟩
          case rest =>
            obtain ⟨rfl, X11, Y11⟩ := hcut
            clear X10 Y10
            go_upto_if 62 with fail
            go_cut [15] from 16 to 94 (fun xv wx => xv = .slice (some ⟨g2, 0, none⟩) n2 d2 ∧ Hb w wx g1 d1 n1 ∧ Hb w wx g2 d2 n2)
            case first =>
              clear HR
              by_cases hc : 0 ≤ at_ ∧ at_ < (n2 : Int)
              · rw [decide_eq_true hc]
                obtain ⟨h1, h2⟩ := hc
                obtain ⟨i, rfl⟩ := Int.eq_ofNat_of_zero_le h1
                have h2' : i < n2 := by omega
                obtain ⟨⟨u, hu⟩, hf⟩ := Y11.cell h2'
                have M := Y11.set h2' hput
                have O := X11.beside hne Y11.new i (.int .u8 put)
                go_wp2_with fail
                go_meet
                exact ⟨rfl, O, M⟩
              · rw [decide_eq_false hc]
                clear hc
                go_wp2_with fail
                go_meet
                exact ⟨rfl, X11, Y11⟩
            case rest =>
              obtain ⟨rfl, X12, Y12⟩ := hcut
              clear X11 Y11
              go_upto_region 16 with fail
              go_cut [74] from 16 to 94 (fun v wx => v = .bool (decide (0 ≤ cut ∧ cut < (n1 : Int))) ∧ Hb w wx g1 d1 n1 ∧ Hb w wx g2 d2 n2)
              case first =>
                clear HR
                by_cases h1 : 0 ≤ cut
                · by_cases h2 : cut < (n1 : Int)
                  · have hd : decide (0 ≤ cut ∧ cut < (n1 : Int)) = true := decide_eq_true ⟨h1, h2⟩
                    go_wp2_with fail
                    go_meet
                    exact ⟨congrArg Value.bool hd.symm, X12, Y12⟩
                  · have hd : decide (0 ≤ cut ∧ cut < (n1 : Int)) = false := decide_eq_false (fun h => h2 h.2)
                    go_wp2_with fail
                    go_meet
                    exact ⟨congrArg Value.bool hd.symm, X12, Y12⟩
                · have hd : decide (0 ≤ cut ∧ cut < (n1 : Int)) = false := decide_eq_false (fun h => h1 h.1)
                  go_wp2_with fail
                  go_meet
                  exact ⟨congrArg Value.bool hd.symm, X12, Y12⟩
              case rest =>
                obtain ⟨rfl, X13, Y13⟩ := hcut
                clear X12 Y12
                go_upto_if 74 with fail
                go_cut [13] from 16 to 94 (fun xv wx => ∃ k : Nat, k ≤ n1 ∧ xv = .slice (some ⟨g1, 0, none⟩) k d1 ∧ Hb w wx g1 d1 n1 ∧ Hb w wx g2 d2 n2)
                case first =>
                  clear HR
                  by_cases hc : 0 ≤ cut ∧ cut < (n1 : Int)
                  · rw [decide_eq_true hc]
                    obtain ⟨h1, h2⟩ := hc
                    obtain ⟨i, rfl⟩ := Int.eq_ofNat_of_zero_le h1
                    have h2' : i < n1 := by omega
                    have h3' : i ≤ d1 := by omega
                    go_wp2_with fail
                    go_meet
                    exact ⟨i, by omega, rfl, X13, Y13⟩
                  · rw [decide_eq_false hc]
                    clear hc
                    go_wp2_with fail
                    go_meet
                    exact ⟨n1, Nat.le_refl _, rfl, X13, Y13⟩
                case rest =>
                  obtain ⟨k1, hk1, rfl, X14, Y14⟩ := hcut
                  clear X13 Y13
                  go_upto_region 18 with fail
                  go_cut [85] from 16 to 94 (fun v wx => v = .bool (decide (0 ≤ cut ∧ cut < (n2 : Int))) ∧ Hb w wx g1 d1 n1 ∧ Hb w wx g2 d2 n2)
                  case first =>
                    clear HR
                    by_cases h1 : 0 ≤ cut
                    · by_cases h2 : cut < (n2 : Int)
                      · have hd : decide (0 ≤ cut ∧ cut < (n2 : Int)) = true := decide_eq_true ⟨h1, h2⟩
                        go_wp2_with fail
                        go_meet
                        exact ⟨congrArg Value.bool hd.symm, X14, Y14⟩
                      · have hd : decide (0 ≤ cut ∧ cut < (n2 : Int)) = false := decide_eq_false (fun h => h2 h.2)
                        go_wp2_with fail
                        go_meet
                        exact ⟨congrArg Value.bool hd.symm, X14, Y14⟩
                    · have hd : decide (0 ≤ cut ∧ cut < (n2 : Int)) = false := decide_eq_false (fun h => h1 h.1)
                      go_wp2_with fail
                      go_meet
                      exact ⟨congrArg Value.bool hd.symm, X14, Y14⟩
                  case rest =>
                    obtain ⟨rfl, X15, Y15⟩ := hcut
                    clear X14 Y14
                    go_upto_if 85 with fail
                    go_cut [15] from 16 to 94 (fun xv wx => ∃ k : Nat, k ≤ n2 ∧ xv = .slice (some ⟨g2, 0, none⟩) k d2 ∧ Hb w wx g1 d1 n1 ∧ Hb w wx g2 d2 n2)
                    case first =>
                      clear HR
                      by_cases hc : 0 ≤ cut ∧ cut < (n2 : Int)
                      · rw [decide_eq_true hc]
                        obtain ⟨h1, h2⟩ := hc
                        obtain ⟨i, rfl⟩ := Int.eq_ofNat_of_zero_le h1
                        have h2' : i < n2 := by omega
                        have h3' : i ≤ d2 := by omega
                        go_wp2_with fail
                        go_meet
                        exact ⟨i, by omega, rfl, X15, Y15⟩
                      · rw [decide_eq_false hc]
                        clear hc
                        go_wp2_with fail
                        go_meet
                        exact ⟨n2, Nat.le_refl _, rfl, X15, Y15⟩
                    case rest =>
                      obtain ⟨k2, hk2, rfl, X16, Y16⟩ := hcut
                      clear X15 Y15
                      obtain ⟨lx, hx⟩ := X16.row hk1
                      go_wp2_with fail
                      refine (HR hx (by omega)).mono ?_
                      rintro e w13 ⟨rfl, k13⟩
                      obtain ⟨ly, hy⟩ := (Y16.more k13).row hk2
                      go_wp2_with fail
                      refine (HR hy (by omega)).mono ?_
                      rintro e w14 ⟨rfl, k14⟩
                      go_wp2_with fail
                      go_ret
                      exact ⟨rfl, X16.keep.trans (k13.trans k14)⟩
theorem reads_law {W : World} {a0 a1 a2 : Option Addr} {n0 c0 n1 c1 n2 c2 : Nat} {b : List Int} (hr : Row W a0 n0 c0 b) (hn : n0 ≤ 140737488355000) (hl : Rows3 W a1 n1 c1) (hp : Rows3 W a2 n2 c2) (at_ put cut : Int) (hput : 0 ≤ put ∧ put ≤ 255) :
    Calls Try.prog 5 #[.slice a0 n0 c0, .slice a1 n1 c1, .slice a2 n2 c2, .int .i64 at_, .int .u8 put, .int .i64 cut] W fun e w' => e = .returned (.bool true) ∧ Below W.heap.size W w' := by
  obtain ⟨l, rfl, h1, h2⟩ := hl
  obtain ⟨p, rfl, h3, h4⟩ := hp
  exact (reads_walk hr hn h1 h3 h4 at_ put cut hput).mono fun _ _ ⟨h1, h2⟩ => ⟨h1, h2.below (Nat.le_refl _) (fun _ e => e.elim)⟩
end Tg
end Go.Proofs.Ytlekapfhbceibaa
