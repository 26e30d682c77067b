/-
  The program's own Snapshot, walked.
-/
import Derived.Test.YtlekapfhbceibaaPb
namespace Go.Proofs.Ytlekapfhbceibaa
open Go.ChangeShapes Go.WideShapes Go.ChangeAt Go.RowKit
namespace Tg
open Vi
/-- May a run, by itself, be laid? -/
def okS (x : Rn) : Bool := decide (0 ≤ x.lba ∧ 1 ≤ x.len ∧ x.len ≤ 512 - x.lba ∧ 0 ≤ x.phys ∧ x.phys ≤ 1048576)
theorem okS_iff {x : Rn} : okS x = true ↔ 0 ≤ x.lba ∧ 1 ≤ x.len ∧ x.len ≤ 512 - x.lba ∧ 0 ≤ x.phys ∧ x.phys ≤ 1048576 := by unfold okS; rw [decide_eq_true_iff]
/-- May runs be laid behind an end? -/
def canS : Bool → Int → Int → List Rn → Bool
  | _, _, _, [] => true
  | h, L, P, x :: l => okS x && (decide (L ≤ x.lba) && (!(h && decide (x.lba = L ∧ x.phys = P)) && canS true (x.lba + x.len) (x.phys + x.len) l))
theorem canS_some : ∀ (l : List Rn) (a : Rn), 1 ≤ a.len → canS true (a.lba + a.len) (a.phys + a.len) l = (formP (some a) l && l.all (fun x => decide (x.fin ≤ 512 ∧ x.phys ≤ 1048576)))
  | [], _, _ => rfl
  | x :: l, a, ha => by
    rw [Bool.eq_iff_iff, canS, formP, List.all_cons]
    simp only [Bool.and_eq_true, Bool.not_eq_true', Bool.true_and, decide_eq_true_iff, decide_eq_false_iff_not]
    by_cases hx : 1 ≤ x.len
    · rw [canS_some l x hx, Bool.and_eq_true, okS_iff, inB_iff]
      unfold folB Rn.fin
      split
      · simp only [bne_iff_ne]
        constructor
        · rintro ⟨h1, h2, h3, h4, h5⟩
          exact ⟨⟨by omega, by omega, h4⟩, by omega, h5⟩
        · rintro ⟨⟨h1, h2, h4⟩, h3, h5⟩
          exact ⟨by omega, by omega, by omega, h4, h5⟩
      · simp only [decide_eq_true_iff]
        constructor
        · rintro ⟨h1, h2, h3, h4, h5⟩
          exact ⟨⟨by omega, by omega, h4⟩, by omega, h5⟩
        · rintro ⟨⟨h1, h2, h4⟩, h3, h5⟩
          exact ⟨by omega, by omega, by omega, h4, h5⟩
    · rw [okS_iff, inB_iff]
      constructor
      · rintro ⟨h1, -⟩
        omega
      · rintro ⟨⟨h1, -⟩, -⟩
        omega
theorem canS_none (l : List Rn) : canS false 0 0 l = (formP none l && l.all (fun x => decide (x.fin ≤ 512 ∧ x.phys ≤ 1048576))) := by
  cases l with
  | nil => rfl
  | cons x l =>
    rw [Bool.eq_iff_iff, canS, formP, List.all_cons]
    simp only [Bool.and_eq_true, Bool.not_eq_true', Bool.false_and, decide_eq_true_iff, true_and]
    by_cases hx : 1 ≤ x.len
    · rw [canS_some l x hx, Bool.and_eq_true, okS_iff, inB_iff]
      unfold Rn.fin
      constructor
      · rintro ⟨h1, h2, h4, h5⟩
        exact ⟨⟨by omega, h4⟩, by omega, h5⟩
      · rintro ⟨⟨h1, h4⟩, h3, h5⟩
        exact ⟨by omega, by omega, h4, h5⟩
    · rw [okS_iff, inB_iff]
      constructor
      · rintro ⟨h1, -⟩
        omega
      · rintro ⟨⟨h1, -⟩, -⟩
        omega
set_option maxHeartbeats 600000 in
/-- inBounds. -/
theorem inb_any {x : Rn} (hb : x.lba ≤ 9223372036854775807) (w : World) :
    Calls Try.prog 51 #[.agg #[.int .i64 x.lba, .int .i64 x.len, .int .i64 x.phys]] w fun e w' => e = .returned (.bool (okS x)) ∧ Keep (fun _ => False) w w' := by
  have K0 := (Keep.refl (fun _ => False) w).alloc (.cells #[.int .i64 x.lba, .int .i64 x.len, .int .i64 x.phys] 45)
  have hw := within_any x.phys 0 1048576
  have no : ¬ (0 ≤ x.lba ∧ 1 ≤ x.len ∧ x.len ≤ 512 - x.lba ∧ 0 ≤ x.phys ∧ x.phys ≤ 1048576) → okS x = false := fun h => decide_eq_false h
  by_cases c1 : 0 ≤ x.lba
  · have f1 := wrapI (x := 512 - x.lba) (by omega) (by omega)
    by_cases c2 : 1 ≤ x.len
    · by_cases c3 : x.len ≤ 512 - x.lba
      · have e : okS x = wiB x.phys 0 1048576 := by
          rw [Bool.eq_iff_iff, okS_iff, wiB_iff]
          exact ⟨fun h => h.2.2.2, fun h => ⟨c1, c2, c3, h⟩⟩
        rw [e]
        clear e no
        cases hq : wiB x.phys 0 1048576 with
        | false =>
          rw [hq] at hw
          go_enter Try.func51, Try.ntmps51
          go_wp2_with fail
          refine (hw _).mono ?_
          rintro e w' ⟨rfl, rfl⟩
          go_wp2_with fail
          go_ret
          exact ⟨rfl, K0⟩
        | true =>
          rw [hq] at hw
          go_enter Try.func51, Try.ntmps51
          go_wp2_with fail
          refine (hw _).mono ?_
          rintro e w' ⟨rfl, rfl⟩
          go_wp2_with fail
          go_ret
          exact ⟨rfl, K0⟩
      · rw [no (fun h => c3 h.2.2.1)]
        clear no
        go_enter Try.func51, Try.ntmps51
        go_wp2_with fail
        go_ret
        exact ⟨rfl, K0⟩
    · rw [no (fun h => c2 h.2.1)]
      clear no
      go_enter Try.func51, Try.ntmps51
      go_wp2_with fail
      go_ret
      exact ⟨rfl, K0⟩
  · rw [no (fun h => c1 h.1)]
    clear no
    go_enter Try.func51, Try.ntmps51
    go_wp2_with fail
    go_ret
    exact ⟨rfl, K0⟩
set_option maxHeartbeats 800000 in
/-- canSnapshot. -/
theorem cansn_any {w : World} {a : Option Addr} {cap : Nat} {l : List Rn} (hR : Rz w a cap l) (hfi : Fits l) :
    Calls Try.prog 38 #[.slice a l.length cap] w fun e w' => e = .returned (.bool (fitB l)) ∧ Keep (fun _ => False) w w' := by
  have K0 := Keep.refl (fun _ => False) w
  have hlc := hR.1
  have hlc2 := hR.2.1
  unfold fitB
  rw [← canS_none]
  by_cases hl : l.length ≤ 512
  · have hl' : ¬ (512 : Int) < (l.length : Int) := by omega
    rw [decide_eq_true hl, Bool.true_and]
    have hB0 : ∃ B, canS false 0 0 l = B := ⟨_, rfl⟩
    obtain ⟨B, hB⟩ := hB0
    rw [hB]
    have hB' : Hid (canS false 0 0 l = B) := hB
    have hfi' : Hid (Fits l) := hfi
    have E2 := End.new w 0 0
    have k2 := K0.alloc (.cells #[.int .i64 0, .int .i64 0] 51)
    clear hB hfi
    generalize hbx : w.heap.size = bt at E2
    have hbt : Hid (w.heap.size ≤ bt) := by show _ ≤ _; omega
    go_enter Try.func38, Try.ntmps38
    go_wp2_with fail
    generalize w.alloc (.cells #[.int .i64 0, .int .i64 0] 51) = w3 at E2 k2
    go_loopw [11] (fun v wx => ∃ (i : Nat) (L P : Int), i ≤ l.length ∧ v = .int .i64 (i : Int) ∧ Hid (B = canS (decide (0 < i)) L P (l.drop i)) ∧ End wx bt L P ∧ Keep (fun _ => False) w wx) (fun v _ => l.length - (intOf v).toNat)
    case atStart => exact ⟨0, 0, 0, by omega, rfl, (show _ = B from hB').symm, E2, k2⟩
    case round =>
      clear E2 k2
      obtain ⟨i, L, P, hi, rfl, hI, E, k1⟩ := hrel
      by_cases hlt : i < l.length
      · obtain ⟨x, hx⟩ := get_rn hlt
        obtain ⟨g, o, rfl, c0, c1, c2⟩ := (hR.more k1).at hx
        have hstep : Hid (B = (okS x && (decide (L ≤ x.lba) && (!(decide (0 < i) && decide (x.lba = L ∧ x.phys = P)) && canS true (x.lba + x.len) (x.phys + x.len) (l.drop (i + 1)))))) := by
          show _ = _
          rw [show _ = _ from hI, drop_at hx, canS]
        have di : (i : Int) < (l.length : Int) := by omega
        have dw := wrapI (x := (i : Int) + 1) (by omega) (by omega)
        have hlt' : Hid (i < l.length) := hlt
        have hf := (show Fits l from hfi') x (List.mem_of_getElem? hx)
        have hib := inb_any (x := x) hf.1.2
        have Ka := (Keep.refl (fun _ => False) wr).alloc (.cells #[.int .i64 x.lba, .int .i64 x.len, .int .i64 x.phys] 45)
        have Ea : End _ bt L P := Blk.keep E Ka (fun e => e)
        have Ta : Tri (wr.alloc (.cells #[.int .i64 x.lba, .int .i64 x.len, .int .i64 x.phys] 45)) wr.heap.size x := blk_alloc wr #[.int .i64 x.lba, .int .i64 x.len, .int .i64 x.phys] 45 3 _ (by intro k hk; rcases (by omega : k = 0 ∨ k = 1 ∨ k = 2) with rfl | rfl | rfl <;> rfl)
        have ka := k1.alloc (.cells #[.int .i64 x.lba, .int .i64 x.len, .int .i64 x.phys] 45)
        generalize hbo : wr.heap.size = bo at Ta
        clear hI hlt hx hf E
        cases hok : okS x with
        | false =>
          obtain rfl : B = false := by rw [show _ = _ from hstep, hok, Bool.false_and]
          rw [hok] at hib
          clear hstep hok
          go_wp2_with fail
          refine (hib _).mono ?_
          rintro e w4 ⟨rfl, k4⟩
          go_wp2_with fail
          go_ret
          exact ⟨rfl, ka.trans k4⟩
        | true =>
          have hx5 := okS_iff.1 hok
          have hstep2 : Hid (B = (decide (L ≤ x.lba) && (!(decide (0 < i) && decide (x.lba = L ∧ x.phys = P)) && canS true (x.lba + x.len) (x.phys + x.len) (l.drop (i + 1))))) := by
            show _ = _
            rw [show _ = _ from hstep, hok, Bool.true_and]
          rw [hok] at hib
          clear hstep hok
          go_wp2_with fail
          refine (hib _).mono ?_
          rintro e w4 ⟨rfl, k4⟩
          have E4 : End w4 bt L P := Blk.keep Ea k4 (fun e => e)
          have T4 : Tri w4 bo x := Blk.keep Ta k4 (fun e => e)
          have kw := ka.trans k4
          have q0 := E4.c0
          have q1 := E4.c1
          have t0 := T4.c0
          have t1 := T4.c1
          have t2 := T4.c2
          clear Ea Ta k4 hib c0 c1 c2 ka hbo k1 Ka
          by_cases hL : x.lba < L
          · obtain rfl : B = false := by rw [show _ = _ from hstep2, decide_eq_false (by omega), Bool.false_and]
            clear hstep2
            go_wp2_with fail
            go_ret
            exact ⟨rfl, kw⟩
          · have hstep3 : Hid (B = (!(decide (0 < i) && decide (x.lba = L ∧ x.phys = P)) && canS true (x.lba + x.len) (x.phys + x.len) (l.drop (i + 1)))) := by
              show _ = _
              rw [show _ = _ from hstep2, decide_eq_true (by omega), Bool.true_and]
            clear hstep2
            by_cases hg : 0 < i ∧ x.lba = L ∧ x.phys = P
            · obtain rfl : B = false := by rw [show _ = _ from hstep3, decide_eq_true hg.1, decide_eq_true hg.2]; rfl
              have g1 : (0 : Int) < (i : Int) := by omega
              have g2 : (x.lba == L) = true := by simp [hg.2.1]
              have g3 : (x.phys == P) = true := by simp [hg.2.2]
              clear hstep3 hg
              go_wp2_with fail
              go_ret
              exact ⟨rfl, kw⟩
            · have hnl : nxL x = x.lba + x.len := wrapI (by omega) (by omega)
              have hnp : nxP P x = x.phys + x.len := by
                unfold nxP
                rw [if_neg (by omega), wrapI (by omega) (by omega)]
              have hI2 : Hid (B = canS (decide (0 < i + 1)) (nxL x) (nxP P x) (l.drop (i + 1))) := by
                show _ = _
                rw [show _ = _ from hstep3, hnl, hnp, decide_eq_true (show 0 < i + 1 by omega)]
                rw [show (decide (0 < i) && decide (x.lba = L ∧ x.phys = P)) = false by rw [← Bool.decide_and]; exact decide_eq_false hg]
                rfl
              have hcall := fun w' => behind_any (lb := L) (ph := P) x w'
              clear hstep3 hnl hnp
              have fin : ∀ w5, Keep (fun _ => False) w4 w5 → ∃ w6, (Instr.storeAt 51 (.pointer (some ⟨bt, 0, none⟩)) (.agg #[.int .i64 (nxL x), .int .i64 (nxP P x)])).run Try.prog w5 = .ok () w6 ∧ End w6 bt (nxL x) (nxP P x) ∧ Keep (fun _ => False) w w6 := fun w5 k5 => by
                obtain ⟨w6, h1, h2, h3⟩ := End.over (Blk.keep E4 k5 (fun e => e) : End w5 bt L P) (nxL x) (nxP P x)
                exact ⟨w6, h1, h2, (kw.trans k5).next h3 (fun y hy e => by have : w.heap.size ≤ bt := hbt; omega)⟩
              generalize nxL x = L2 at hI2 hcall fin
              generalize nxP P x = P2 at hI2 hcall fin
              by_cases h0 : 0 < i
              · have g1 : (0 : Int) < (i : Int) := by omega
                by_cases h1 : x.lba = L
                · have h2 : ¬ x.phys = P := fun h => hg ⟨h0, h1, h⟩
                  have g2 : (x.lba == L) = true := by simp [h1]
                  have g3 : (x.phys == P) = false := by simp [h2]
                  clear hg h0 h1 h2
                  go_wp2_with fail
                  refine (hcall _).mono ?_
                  rintro e w5 ⟨rfl, k5⟩
                  obtain ⟨w6, hst, E6, k6⟩ := fin w5 k5
                  clear fin hcall q0 q1 t0 t1 t2
                  go_wp2_with (guard_target =~ wpList _ _ _ (Oper.mk _ (Op.store 51 _ _) _ _ _ _ :: _) _ _; refine wpList_store_run rfl 51 (.tmp 3) (.tmp 44) rfl (by rfl) (by rfl) hst ?_)
                  go_roundw
                  case rel => exact ⟨i + 1, L2, P2, hlt', by go_num, hI2, E6, k6⟩
                  case measure => have : i < l.length := hlt'; simp [intOf]; omega
                · have g2 : (x.lba == L) = false := by simp [h1]
                  clear hg h0 h1
                  go_wp2_with fail
                  refine (hcall _).mono ?_
                  rintro e w5 ⟨rfl, k5⟩
                  obtain ⟨w6, hst, E6, k6⟩ := fin w5 k5
                  clear fin hcall q0 q1 t0 t1 t2
                  go_wp2_with (guard_target =~ wpList _ _ _ (Oper.mk _ (Op.store 51 _ _) _ _ _ _ :: _) _ _; refine wpList_store_run rfl 51 (.tmp 3) (.tmp 44) rfl (by rfl) (by rfl) hst ?_)
                  go_roundw
                  case rel => exact ⟨i + 1, L2, P2, hlt', by go_num, hI2, E6, k6⟩
                  case measure => have : i < l.length := hlt'; simp [intOf]; omega
              · have g1 : ¬ (0 : Int) < (i : Int) := by omega
                clear hg h0
                go_wp2_with fail
                refine (hcall _).mono ?_
                rintro e w5 ⟨rfl, k5⟩
                obtain ⟨w6, hst, E6, k6⟩ := fin w5 k5
                clear fin hcall q0 q1 t0 t1 t2
                go_wp2_with (guard_target =~ wpList _ _ _ (Oper.mk _ (Op.store 51 _ _) _ _ _ _ :: _) _ _; refine wpList_store_run rfl 51 (.tmp 3) (.tmp 44) rfl (by rfl) (by rfl) hst ?_)
                go_roundw
                case rel => exact ⟨i + 1, L2, P2, hlt', by go_num, hI2, E6, k6⟩
                case measure => have : i < l.length := hlt'; simp [intOf]; omega
      · obtain rfl : i = l.length := by omega
        have hT : Hid (B = true) := by
          show _ = _
          rw [show _ = _ from hI, List.drop_length]; rfl
        obtain rfl : B = true := hT
        clear hI hlt
        go_wp2_with fail
        go_ret
        exact ⟨rfl, k1⟩
  · have hl' : (512 : Int) < (l.length : Int) := by omega
    rw [decide_eq_false hl, Bool.false_and]
    go_enter Try.func38, Try.ntmps38
    go_wp2_with fail
    go_ret
    exact ⟨rfl, K0⟩
end Tg
end Go.Proofs.Ytlekapfhbceibaa
