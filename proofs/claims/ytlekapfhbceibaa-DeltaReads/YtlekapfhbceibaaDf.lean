/-
  The document's own Runs, walked.
-/
import Derived.Test.YtlekapfhbceibaaDe
namespace Go.Proofs.Ytlekapfhbceibaa
open Go.ChangeShapes Go.WideShapes Go.ChangeAt Go.RowKit
namespace Tg
open Vi
/-- A triple of one's own beside a row of runs of one's own. -/
structure Lr (w wx : World) (bx : Nat) (x : Rn) (a : Option Addr) (c : Nat) (m : List Rn) : Prop where
  tri : Tri wx bx x
  row : Rr w wx a c m
  ne : ∀ g, a = some ⟨g, 0, none⟩ → g ≠ bx
  new : w.heap.size ≤ bx
theorem Lr.call {w wx w2 : World} {bx : Nat} {x : Rn} {a : Option Addr} {c : Nat} {m : List Rn} (h : Lr w wx bx x a c m) (k : Keep (fun _ => False) wx w2) : Lr w w2 bx x a c m :=
  ⟨Blk.keep h.tri k (fun e => e), h.row.more k, h.ne, h.new⟩
theorem Lr.set {w wx : World} {bx : Nat} {x y : Rn} {a : Option Addr} {c : Nat} {m : List Rn} (h : Lr w wx bx x a c m) {p : Addr} (hp : p.block = bx) {v : Value} (t : Tri (wx.setCell p v) bx y) : Lr w (wx.setCell p v) bx y a c m :=
  ⟨t, h.row.other (S := fun b => b = bx) ((Keep.refl _ wx).setCell (Or.inl hp) v) (fun g e => h.ne g e) (fun b e => by have := h.new; omega), h.ne, h.new⟩
theorem Lr.new' {w wr : World} {a : Option Addr} {c : Nat} {m : List Rn} (h : Rr w wr a c m) (x : Rn) : Lr w (wr.alloc (.cells #[.int .i64 x.lba, .int .i64 x.len, .int .i64 x.phys] 45)) wr.heap.size x a c m :=
  ⟨Tri.newR wr x, h.more ((Keep.refl _ wr).alloc _), fun g e => by have := (h.block e).2; omega, h.keep.size⟩
theorem rr_made9 (w : World) : Rr w (w.alloc (.cells #[] 45)) (some ⟨w.heap.size, 0, none⟩) 0 [] :=
  ⟨World.ownsRow_lit (e := 45) (size := 3) (base := w.heap.size) w #[] 0 (Nat.le_refl _) (by unfold maxLen; omega) rfl, (Keep.refl _ _).alloc _⟩
set_option maxRecDepth 100000 in
theorem make_runs9 (w : World) : (Instr.makeSlice 32 (.int .i64 0) (.int .i64 0)).run Try.prog w = .ok (.slice (some ⟨w.heap.size, 0, none⟩) 0 0) (w.alloc (.cells #[] 45)) := by kernel_rfl
/-- One run more read. -/
theorem rdS_more {k : Nat} {L P : Int} {r : List Int} {d1 n d2 : Int} {b1 b2 b3 : List Int} (h1 : numL r = some (d1, b1)) (h2 : numL b1 = some (n, b2)) (h3 : whoL b2 = some (d2, b3)) (m : List Rn) :
    (rdS (k + 1) L P r).map (fun q => (m ++ q.1, q.2)) = (rdS k (L + d1 + (n + 1)) (P + d2 + (n + 1)) b3).map (fun q => ((m ++ [(⟨L + d1, n + 1, P + d2⟩ : Rn)]) ++ q.1, q.2)) := by
  rw [rdS, h1]
  simp only
  rw [h2]
  simp only
  rw [h3]
  simp only
  cases rdS k (L + d1 + (n + 1)) (P + d2 + (n + 1)) b3 with
  | none => rfl
  | some q => simp
set_option maxRecDepth 100000 in
set_option maxHeartbeats 1000000 in
/-- Runs. -/
theorem runs_any {w : World} {a : Option Addr} {len cap : Nat} {b : List Int} (hr : Row w a len cap b) :
    Calls Try.prog 33 #[.slice a len cap] w fun e w' => match decS b with
      | none => e = .returned (.tuple #[.slice none 0 0, .bool false]) ∧ Keep (fun _ => False) w w'
      | some l => ∃ a' c', e = .returned (.tuple #[.slice a' l.length c', .bool true]) ∧ Rr w w' a' c' l := by
  have K0 := Keep.refl (fun _ => False) w
  have hb : Bys b := hr.2.2.2.1
  have hg := number_any hr
  have hD0 : ∃ D, decS b = D := ⟨_, rfl⟩
  obtain ⟨D, hD⟩ := hD0
  rw [hD]
  cases hn : numL b with
  | none =>
    rw [hn] at hg
    obtain rfl : none = D := by rw [← hD]; unfold decS; rw [hn]
    go_enter Try.func33, Try.ntmps33
    go_wp2_with fail
    refine hg.mono ?_
    rintro e w1 ⟨rfl, k1⟩
    go_wp2_with fail
    go_ret2
    exact ⟨rfl, k1⟩
  | some p =>
    obtain ⟨nn, b1⟩ := p
    obtain ⟨g1, g2, -, hb1⟩ := put_num hb hn
    rw [hn] at hg
    simp only at hg
    have hD2 : D = if 512 < nn then none else match rdS nn.toNat 0 0 b1 with
      | none => none
      | some (l, r) => if r = [] ∧ fitB l = true then some l else none := by rw [← hD]; unfold decS; rw [hn]; rfl
    by_cases hbig : 512 < nn
    · obtain rfl : D = none := by rw [hD2, if_pos hbig]
      go_enter Try.func33, Try.ntmps33
      go_wp2_with fail
      refine hg.mono ?_
      rintro e w1 ⟨⟨a2, len2, cap2, rfl, hR2⟩, k1⟩
      go_wp2_with fail
      go_ret2
      exact ⟨rfl, k1⟩
    · rw [if_neg hbig] at hD2
      obtain ⟨N, rfl⟩ := Int.eq_ofNat_of_zero_le g1
      rw [Int.toNat_natCast] at hD2
      have hbig' : ¬ (512 : Int) < (N : Int) := hbig
      have hN : N ≤ 512 := by omega
      have hDn : Hid (rdS N 0 0 b1 = none → D = none) := fun e => by rw [hD2, e]
      have hDs : Hid (∀ l r, rdS N 0 0 b1 = some (l, r) → D = if r = [] ∧ fitB l = true then some l else none) := fun l r e => by rw [hD2, e]
      have hDb : Hid (decS b = D) := hD
      have hI0 : Hid (rdS N 0 0 b1 = (rdS (N - 0) 0 0 b1).map (fun q => ([] ++ q.1, q.2))) := by
        show _ = _
        rw [Nat.sub_zero]
        cases rdS N 0 0 b1 <;> simp
      clear hD hD2 hbig g1 g2 hn
      go_enter Try.func33, Try.ntmps33
      go_wp2_with fail
      refine hg.mono ?_
      rintro e w1 ⟨⟨a2, len2, cap2, rfl, hR2⟩, k1⟩
      have hR1 := hR2 w hr
      have hM := rr_made9 w1
      have hM0 : Rr w (w1.alloc (.cells #[] 45)) (some ⟨w1.heap.size, 0, none⟩) 0 [] := hM.older k1
      have hmk := make_runs9 w1
      clear hg hR2 hM
      go_wp2_with fail
      go_loopw [5, 6, 7, 8, 9, 10] (fun rs ok lv lb ph v wx => ∃ (i n5 c5 c7 : Nat) (a5 a7 : Option Addr) (m : List Rn) (r : List Int) (L P : Int), i ≤ N ∧ v = .int .i64 (i : Int) ∧ rs = .slice a5 n5 c5 ∧ ok = .bool true ∧ lv = .slice a7 i c7 ∧ lb = .int .i64 L ∧ ph = .int .i64 P ∧ Row w a5 n5 c5 r ∧ Rr w wx a7 c7 m ∧ Hid (m.length = i) ∧ Hid (rdS N 0 0 b1 = (rdS (N - i) L P r).map (fun q => (m ++ q.1, q.2))) ∧ Hid ((-4398046511104 * (i : Int) ≤ L ∧ L ≤ 4398046511104 * (i : Int)) ∧ -4398046511104 * (i : Int) ≤ P ∧ P ≤ 4398046511104 * (i : Int))) (fun _ _ _ _ _ v _ => N - (intOf v).toNat)
      case atStart => exact ⟨0, _, _, _, _, _, [], b1, 0, 0, by omega, rfl, rfl, rfl, rfl, rfl, rfl, hR1, hM0, rfl, hI0, ⟨by omega, by omega⟩, by omega, by omega⟩
      case round =>
        clear hI0 hM0 hR1
        obtain ⟨i, n5, c5, c7, a5, a7, m, r, L, P, hi, rfl, rfl, rfl, rfl, rfl, rfl, hRr, hM, hml, hI, hLP⟩ := hrel
        by_cases hlt : i < N
        · have di : (i : Int) < (N : Int) := by omega
          have dw := wrapI (x := (i : Int) + 1) (by omega) (by omega)
          obtain ⟨k, hk⟩ : ∃ k, N - i = k + 1 := ⟨N - i - 1, by omega⟩
          rw [hk] at hI
          have hk' : Hid (N - (i + 1) = k) := by show _ = _; omega
          have hlt' : Hid (i < N) := hlt
          have hLP' := hLP
          obtain ⟨⟨z0, z1⟩, z2, z3⟩ := show (_ ∧ _) ∧ _ ∧ _ from hLP'
          have hx := Lr.new' hM ⟨0, 0, 0⟩
          have hw1 := number_any (hRr.moreV hx.row.keep)
          have hbr : Bys r := hRr.2.2.2.1
          clear hlt hk hLP hLP' hM
          cases hc1 : numL r with
          | none =>
            obtain rfl : D = none := (show _ → _ from hDn) (by rw [show _ = _ from hI, rdS, hc1]; rfl)
            rw [hc1] at hw1
            clear hI hDs hc1
            go_wp2_with fail
            refine hw1.mono ?_
            rintro e w2 ⟨rfl, k2⟩
            go_wp2_with fail
            go_ret2
            exact ⟨rfl, (hx.call k2).row.keep⟩
          | some p1 =>
            obtain ⟨d1, r1⟩ := p1
            obtain ⟨u0, u1, -, hbr1⟩ := put_num hbr hc1
            rw [hc1] at hw1
            simp only at hw1
            have f1 := wrapI (x := L + d1) (by omega) (by omega)
            have hc1' : Hid (numL r = some (d1, r1)) := hc1
            clear hc1
            go_wp2_with fail
            refine hw1.mono ?_
            rintro e w2 ⟨⟨a6, n6, c6, rfl, hR6⟩, k2⟩
            have hRr1 := hR6 w (by assumption)
            have hx2 := hx.call k2
            have hx3 := hx2.set (p := ⟨wr.heap.size, 0, none⟩) rfl (hx2.tri.set0 (L + d1))
            have s0 := (hx2.tri 0 (by omega)).1
            have s0f := (hx2.tri 0 (by omega)).2
            have hn2 := number_any (hRr1.moreV hx3.row.keep)
            clear hx k2 hw1 hx2 hRr hR6
            simp only [if_true] at s0
            cases hc2 : numL r1 with
            | none =>
              obtain rfl : D = none := (show _ → _ from hDn) (by rw [show _ = _ from hI, rdS, show numL r = _ from hc1']; simp only; rw [hc2]; rfl)
              rw [hc2] at hn2
              clear hI hDs hc2 hc1'
              go_wp2_with fail
              refine hn2.mono ?_
              rintro e w4 ⟨rfl, k4⟩
              go_wp2_with fail
              go_ret2
              exact ⟨rfl, (hx3.call k4).row.keep⟩
            | some p2 =>
              obtain ⟨n, r2⟩ := p2
              obtain ⟨v0, v1, -, hbr2⟩ := put_num hbr1 hc2
              rw [hc2] at hn2
              simp only at hn2
              have hc2' : Hid (numL r1 = some (n, r2)) := hc2
              clear hc2
              go_wp2_with fail
              refine hn2.mono ?_
              rintro e w4 ⟨⟨a7', n7, c7', rfl, hR7⟩, k4⟩
              have hRr2 := hR7 w (by assumption)
              have hx4 := hx3.call k4
              have hx5 := hx4.set (p := ⟨wr.heap.size, 1, none⟩) rfl (hx4.tri.set1 (n + 1))
              have s1 := (hx4.tri 1 (by omega)).1
              have s1f := (hx4.tri 1 (by omega)).2
              simp only [if_true] at s1
              have f5 := wrapI (x := n + 1) (by omega) (by omega)
              have hw3 := whole_any (hRr2.moreV hx5.row.keep)
              clear hx3 k4 hn2 hx4 hRr1 hR7 s0 s0f
              cases hc3 : whoL r2 with
              | none =>
                obtain rfl : D = none := (show _ → _ from hDn) (by rw [show _ = _ from hI, rdS, show numL r = _ from hc1']; simp only; rw [show numL r1 = _ from hc2']; simp only; rw [hc3]; rfl)
                rw [hc3] at hw3
                clear hI hDs hc3 hc1' hc2'
                go_wp2_with fail
                refine hw3.mono ?_
                rintro e w6 ⟨rfl, k6⟩
                go_wp2_with fail
                go_ret2
                exact ⟨rfl, (hx5.call k6).row.keep⟩
              | some p3 =>
                obtain ⟨d2, r3⟩ := p3
                obtain ⟨y0, y1, -, hbr3⟩ := put_who hbr2 hc3
                rw [hc3] at hw3
                simp only at hw3
                have hc3' : Hid (whoL r2 = some (d2, r3)) := hc3
                clear hc3
                go_wp2_with fail
                refine hw3.mono ?_
                rintro e w6 ⟨⟨a8, n8, c8, rfl, hR8⟩, k6⟩
                have hRr3 := hR8 w (by assumption)
                have hx6 := hx5.call k6
                have s2 := (hx6.tri 2 (by omega)).1
                have s2f := (hx6.tri 2 (by omega)).2
                clear hx5 k6 hw3 hR8 s1 s1f hRr2
                have hI3 : Hid (rdS N 0 0 b1 = (rdS (N - (i + 1)) (L + d1 + (n + 1)) (P + d2 + (n + 1)) r3).map (fun q => ((m ++ [(⟨L + d1, n + 1, P + d2⟩ : Rn)]) ++ q.1, q.2))) := by
                  show _ = _
                  rw [show N - (i + 1) = k from hk', show _ = _ from hI, rdS_more (show numL r = _ from hc1') (show numL r1 = _ from hc2') (show whoL r2 = _ from hc3') m]
                have hml' : m.length = i := hml
                clear hI hc1' hc2' hc3' hDn hk'
                have f2 := wrapI (x := L + d1 + (n + 1)) (by omega) (by omega)
                have g1 := wrapI (x := P + d2) (by omega) (by omega)
                have f3 := wrapI (x := P + d2 + (n + 1)) (by omega) (by omega)
                have bL : Hid (-4398046511104 * ((i + 1 : Nat) : Int) ≤ L + d1 + (n + 1) ∧ L + d1 + (n + 1) ≤ 4398046511104 * ((i + 1 : Nat) : Int)) := by show _ ∧ _; push_cast; omega
                have bP : Hid (-4398046511104 * ((i + 1 : Nat) : Int) ≤ P + d2 + (n + 1) ∧ P + d2 + (n + 1) ≤ 4398046511104 * ((i + 1 : Nat) : Int)) := by show _ ∧ _; push_cast; omega
                have hx7 := hx6.set (p := ⟨wr.heap.size, 2, none⟩) rfl (hx6.tri.set2 (P + d2))
                have q0 := hx7.tri.c0
                have q1 := hx7.tri.c1
                have q2 := hx7.tri.c2
                obtain ⟨a9, c9, w9, hrun, hM9⟩ := hx7.row.app1 (by omega) ⟨L + d1, n + 1, P + d2⟩
                rw [show (w6.setCell ⟨wr.heap.size, 2, none⟩ (.int .i64 (P + d2))).heap.size = w6.heap.size by simp [World.setCell]] at hrun
                have hl9 : Hid ((m ++ [(⟨L + d1, n + 1, P + d2⟩ : Rn)]).length = i + 1) := by show _ = _; rw [List.length_append, hml']; rfl
                rw [hml'] at hrun
                clear hml hml' hx7 hx6 hDs z0 z1 z2 z3 u0 u1 v0 v1 y0 y1
                simp only at q0 q1 q2
                go_wp2_with (at_builtin; refine wpList_append_run rfl (.tmp 77) (.tmp 79) 32 rfl (by rfl) (by rfl) hrun ?_)
                go_roundw
                case rel => exact ⟨i + 1, n8, c8, c9, a8, a9, _, r3, L + d1 + (n + 1), P + d2 + (n + 1), hlt', by go_num, rfl, rfl, rfl, rfl, rfl, hRr3, hM9, hl9, hI3, bL, bP⟩
                case measure => have : i < N := hlt'; simp [intOf]; omega
        · obtain rfl : i = N := by omega
          have hml' : m.length = i := hml
          have hI' : rdS i 0 0 b1 = some (m, r) := by
            rw [show _ = _ from hI, Nat.sub_self, rdS]; simp
          have hDm := (show ∀ l r, rdS i 0 0 b1 = some (l, r) → D = if r = [] ∧ fitB l = true then some l else none from hDs) m r hI'
          have hnr : r.length = n5 := hRr.1
          clear hI hDs hDn hI' hLP hlt
          by_cases hre : r = []
          · subst hre
            simp only [List.length_nil] at hnr
            subst hnr
            simp only [true_and] at hDm
            have hma := fits_any hM.rs.rz
            cases hmb : fitB m with
            | false =>
              rw [hmb] at hDm hma
              obtain rfl : D = none := hDm
              rw [hml'] at hma
              clear hml hml'
              go_wp2_with fail
              refine hma.mono ?_
              rintro e w2 ⟨rfl, k2⟩
              go_wp2_with fail
              go_ret2
              exact ⟨rfl, hM.keep.trans k2⟩
            | true =>
              rw [hmb] at hDm hma
              obtain rfl : D = some m := hDm
              have hrec : snL m = b := ((decS_iff hb).1 (show decS b = _ from hDb)).2
              have hre := fun {w2 : World} (k : Keep (fun _ => False) wr w2) => snapshot_any (hM.rs.rz.more k) (fitB_iff.1 hmb)
              rw [hml'] at hma
              simp only [hml'] at hre
              have hml2 : Hid (m.length = i) := hml
              clear hml hml' hDb hmb
              go_wp2_with fail
              refine hma.mono ?_
              rintro e w2 ⟨rfl, k2⟩
              clear hma
              go_wp2_with fail
              refine (hre k2).mono ?_
              rintro e w3 ⟨g3, c3, rfl, G3⟩
              clear hre
              have hsm := same40 (hrec ▸ G3.row) (hr.moreV ((hM.keep.trans k2).trans G3.keep))
              rw [hrec] at G3 ⊢
              go_wp2_with fail
              refine hsm.mono ?_
              rintro e w4 ⟨rfl, k4⟩
              go_wp2_with fail
              go_ret2
              exact ⟨a7, c7, by rw [show m.length = i from hml2]; rfl, hM.more ((k2.trans G3.keep).trans k4)⟩
          · have hn5 : (0 : Int) < (n5 : Int) := by
              have : 0 < r.length := List.length_pos_iff.2 hre
              omega
            rw [if_neg (fun e => hre e.1)] at hDm
            obtain rfl : D = none := hDm
            clear hml hml' hnr hre
            go_wp2_with fail
            go_ret2
            exact ⟨rfl, hM.keep⟩
end Tg
end Go.Proofs.Ytlekapfhbceibaa
