/-
  The document's own Changes, walked.
-/
import Derived.Test.YtlekapfhbceibaaDd
namespace Go.Proofs.Ytlekapfhbceibaa
open Go.ChangeShapes Go.WideShapes Go.ChangeAt Go.RowKit
namespace Tg
open Vi
theorem Row.moreV {w w' : World} {a : Option Addr} {len cap : Nat} {l : List Int} (h : Row w a len cap l) (k : Keep (fun _ => False) w w') : Row w' a len cap l := h.keep k (fun _ _ _ e => e)
theorem Tri.set0 {w : World} {b : Nat} {x : Rn} (h : Tri w b x) (v : Int) : Tri (w.setCell ⟨b, 0, none⟩ (.int .i64 v)) b ⟨v, x.len, x.phys⟩ :=
  Blk.congr (Blk.set h 0 _) (fun i hi => by rcases (by omega : i = 0 ∨ i = 1 ∨ i = 2) with rfl | rfl | rfl <;> rfl)
theorem Tri.set1 {w : World} {b : Nat} {x : Rn} (h : Tri w b x) (v : Int) : Tri (w.setCell ⟨b, 1, none⟩ (.int .i64 v)) b ⟨x.lba, v, x.phys⟩ :=
  Blk.congr (Blk.set h 1 _) (fun i hi => by rcases (by omega : i = 0 ∨ i = 1 ∨ i = 2) with rfl | rfl | rfl <;> rfl)
theorem Tri.set2 {w : World} {b : Nat} {x : Rn} (h : Tri w b x) (v : Int) : Tri (w.setCell ⟨b, 2, none⟩ (.int .i64 v)) b ⟨x.lba, x.len, v⟩ :=
  Blk.congr (Blk.set h 2 _) (fun i hi => by rcases (by omega : i = 0 ∨ i = 1 ∨ i = 2) with rfl | rfl | rfl <;> rfl)
theorem Rp.older {w0 w1 w : World} {a : Option Addr} {cap : Nat} {m : List Rn} (h : Rp w1 w a cap m) (k : Keep (fun _ => False) w0 w1) : Rp w0 w a cap m := by
  refine ⟨⟨h.own.1, h.own.2.imp id ?_⟩, k.trans h.keep⟩
  rintro ⟨g, c, cur, e, hb, hh, h1, h2, h3, h4⟩
  exact ⟨g, c, cur, e, by have := k.size; omega, hh, h1, h2, h3, h4⟩
/-- A triple of one's own beside a row of changes of one's own. -/
structure Lo (w wx : World) (bx : Nat) (x : Rn) (a : Option Addr) (c : Nat) (m : List Rn) : Prop where
  tri : Tri wx bx x
  row : Rp w wx a c m
  ne : ∀ g, a = some ⟨g, 0, none⟩ → g ≠ bx
  new : w.heap.size ≤ bx
theorem Lo.call {w wx w2 : World} {bx : Nat} {x : Rn} {a : Option Addr} {c : Nat} {m : List Rn} (h : Lo w wx bx x a c m) (k : Keep (fun _ => False) wx w2) : Lo w w2 bx x a c m :=
  ⟨Blk.keep h.tri k (fun e => e), h.row.more k, h.ne, h.new⟩
theorem Lo.set {w wx : World} {bx : Nat} {x y : Rn} {a : Option Addr} {c : Nat} {m : List Rn} (h : Lo w wx bx x a c m) {p : Addr} (hp : p.block = bx) {v : Value} (t : Tri (wx.setCell p v) bx y) : Lo w (wx.setCell p v) bx y a c m :=
  ⟨t, h.row.other (S := fun b => b = bx) ((Keep.refl _ wx).setCell (Or.inl hp) v) (fun g e => h.ne g e) (fun b e => by have := h.new; omega), h.ne, h.new⟩
theorem Lo.new' {w wr : World} {a : Option Addr} {c : Nat} {m : List Rn} (h : Rp w wr a c m) (x : Rn) : Lo w (wr.alloc (.cells #[.int .i64 x.lba, .int .i64 x.len, .int .i64 x.phys] 28)) wr.heap.size x a c m :=
  ⟨Tri.new wr x, h.more ((Keep.refl _ wr).alloc _), fun g e => by have := (h.block e).2; omega, h.keep.size⟩
set_option maxHeartbeats 600000 in
/-- same, of bytes that are the same. -/
theorem same40 {w : World} {a1 a2 : Option Addr} {n1 n2 c1 c2 : Nat} {l : List Int} (h1 : Row w a1 n1 c1 l) (h2 : Row w a2 n2 c2 l) :
    Calls Try.prog 49 #[.slice a1 n1 c1, .slice a2 n2 c2] w fun e w' => e = .returned (.bool true) ∧ Keep (fun _ => False) w w' := by
  have K0 := Keep.refl (fun _ => False) w
  have t1 := h1.text
  have t2 := h2.text
  clear h1 h2
  go_enter Try.func49, Try.ntmps49
  go_wp2_with fail
  go_ret
  exact ⟨rfl, K0⟩
set_option maxRecDepth 100000 in
theorem make_ops (w : World) : (Instr.makeSlice 29 (.int .i64 0) (.int .i64 0)).run Try.prog w = .ok (.slice (some ⟨w.heap.size, 0, none⟩) 0 0) (w.alloc (.cells #[] 28)) := by kernel_rfl
/-- What a change's numbers say, one more read. -/
theorem rdB_more {k : Nat} {L P : Int} {r : List Int} {d1 n d2 : Int} {b1 b2 b3 : List Int} (h1 : whoL r = some (d1, b1)) (h2 : numL b1 = some (n, b2)) (h3 : whoL b2 = some (d2, b3)) (h4 : ¬ (d2 ≠ 0 ∧ (xOf L P d1 n d2).phys < 0)) (m : List Rn) :
    (rdB (k + 1) L P r).map (fun q => (m ++ q.1, q.2)) = (rdB k (L + d1 + n) (phN P (xOf L P d1 n d2)) b3).map (fun q => ((m ++ [xOf L P d1 n d2]) ++ q.1, q.2)) := by
  rw [rdB, h1]
  simp only
  rw [h2]
  simp only
  rw [h3]
  simp only
  rw [if_neg h4]
  cases rdB k (L + d1 + n) (phN P (xOf L P d1 n d2)) b3 with
  | none => rfl
  | some q => simp
set_option maxRecDepth 100000 in
set_option maxHeartbeats 1000000 in
/-- Changes. -/
theorem changes_any {w : World} {a : Option Addr} {len cap : Nat} {b : List Int} (hr : Row w a len cap b) :
    Calls Try.prog 32 #[.slice a len cap] w fun e w' => match decL b with
      | none => e = .returned (.tuple #[.slice none 0 0, .bool false]) ∧ Keep (fun _ => False) w w'
      | some l => ∃ a' c', e = .returned (.tuple #[.slice a' l.length c', .bool true]) ∧ Rp w w' a' c' l := by
  have K0 := Keep.refl (fun _ => False) w
  have hb : Bys b := hr.2.2.2.1
  have hg := number_any hr
  have hD0 : ∃ D, decL b = D := ⟨_, rfl⟩
  obtain ⟨D, hD⟩ := hD0
  rw [hD]
  cases hn : numL b with
  | none =>
    rw [hn] at hg
    obtain rfl : none = D := by rw [← hD]; unfold decL; rw [hn]
    go_enter Try.func32, Try.ntmps32
    go_wp2_with fail
    refine hg.mono ?_
    rintro e w1 ⟨rfl, k1⟩
    go_wp2_with fail
    go_ret2
    exact ⟨rfl, k1⟩
  | some p =>
    obtain ⟨nn, b1⟩ := p
    obtain ⟨g1, g2, -, hb1⟩ := put_num hb hn
    rw [hn] at hg
    simp only at hg
    have hD2 : D = if 512 < nn then none else match rdB nn.toNat 0 0 b1 with
      | none => none
      | some (l, r) => if r = [] ∧ mayB l = true then some l else none := by rw [← hD]; unfold decL; rw [hn]; rfl
    by_cases hbig : 512 < nn
    · obtain rfl : D = none := by rw [hD2, if_pos hbig]
      go_enter Try.func32, Try.ntmps32
      go_wp2_with fail
      refine hg.mono ?_
      rintro e w1 ⟨⟨a2, len2, cap2, rfl, hR2⟩, k1⟩
      go_wp2_with fail
      go_ret2
      exact ⟨rfl, k1⟩
    · rw [if_neg hbig] at hD2
      obtain ⟨N, rfl⟩ := Int.eq_ofNat_of_zero_le g1
      rw [Int.toNat_natCast] at hD2
      have hbig' : ¬ (512 : Int) < (N : Int) := hbig
      have hN : N ≤ 512 := by omega
      have hDn : Hid (rdB N 0 0 b1 = none → D = none) := fun e => by rw [hD2, e]
      have hDs : Hid (∀ l r, rdB N 0 0 b1 = some (l, r) → D = if r = [] ∧ mayB l = true then some l else none) := fun l r e => by rw [hD2, e]
      have hDb : Hid (decL b = D) := hD
      have hI0 : Hid (rdB N 0 0 b1 = (rdB (N - 0) 0 0 b1).map (fun q => ([] ++ q.1, q.2))) := by
        show _ = _
        rw [Nat.sub_zero]
        cases rdB N 0 0 b1 <;> simp
      clear hD hD2 hbig g1 g2 hn
      go_enter Try.func32, Try.ntmps32
      go_wp2_with fail
      refine hg.mono ?_
      rintro e w1 ⟨⟨a2, len2, cap2, rfl, hR2⟩, k1⟩
      have hR1 := hR2 w hr
      have hM := rp_made w1
      have hM0 : Rp w (w1.alloc (.cells #[] 28)) (some ⟨w1.heap.size, 0, none⟩) 0 [] := hM.older k1
      have hmk := make_ops w1
      clear hg hR2 hM
      go_wp2_with fail
      go_loopw [5, 6, 7, 8, 9, 10] (fun rs ok lv lb ph v wx => ∃ (i n5 c5 c7 : Nat) (a5 a7 : Option Addr) (m : List Rn) (r : List Int) (L P : Int), i ≤ N ∧ v = .int .i64 (i : Int) ∧ rs = .slice a5 n5 c5 ∧ ok = .bool true ∧ lv = .slice a7 i c7 ∧ lb = .int .i64 L ∧ ph = .int .i64 P ∧ Row w a5 n5 c5 r ∧ Rp w wx a7 c7 m ∧ Hid (m.length = i) ∧ Hid (rdB N 0 0 b1 = (rdB (N - i) L P r).map (fun q => (m ++ q.1, q.2))) ∧ Hid ((-2199023255552 * (i : Int) ≤ L ∧ L ≤ 2199023255552 * (i : Int)) ∧ -2199023255552 * (i : Int) ≤ P ∧ P ≤ 2199023255552 * (i : Int))) (fun _ _ _ _ _ v _ => N - (intOf v).toNat)
      case atStart => exact ⟨0, _, _, _, _, _, [], b1, 0, 0, by omega, rfl, rfl, rfl, rfl, rfl, rfl, hR1, hM0, rfl, hI0, ⟨by omega, by omega⟩, by omega, by omega⟩
      case round =>
        clear hI0 hM0 hR1
        obtain ⟨i, n5, c5, c7, a5, a7, m, r, L, P, hi, rfl, rfl, rfl, rfl, rfl, rfl, hRr, hM, hml, hI, hLP⟩ := hrel
        by_cases hlt : i < N
        · have di : (i : Int) < (N : Int) := by omega
          have dw := wrapI (x := (i : Int) + 1) (by omega) (by omega)
          obtain ⟨k, hk⟩ : ∃ k, N - i = k + 1 := ⟨N - i - 1, by omega⟩
          rw [hk] at hI
          have hk' : Hid (N - (i + 1) = k) := by show _ = _; omega
          have hlt' : Hid (i < N) := hlt
          have hLP' := hLP
          obtain ⟨⟨z0, z1⟩, z2, z3⟩ := show (_ ∧ _) ∧ _ ∧ _ from hLP'
          have hx := Lo.new' hM ⟨0, 0, -1⟩
          have hw1 := whole_any (hRr.moreV hx.row.keep)
          have hbr : Bys r := hRr.2.2.2.1
          clear hlt hk hLP hLP' hM
          cases hc1 : whoL r with
          | none =>
            obtain rfl : D = none := (show _ → _ from hDn) (by rw [show _ = _ from hI, rdB, hc1]; rfl)
            rw [hc1] at hw1
            clear hI hDs hc1
            go_wp2_with fail
            refine hw1.mono ?_
            rintro e w2 ⟨rfl, k2⟩
            go_wp2_with fail
            go_ret2
            exact ⟨rfl, (hx.call k2).row.keep⟩
          | some p1 =>
            obtain ⟨d1, r1⟩ := p1
            obtain ⟨u0, u1, -, hbr1⟩ := put_who hbr hc1
            rw [hc1] at hw1
            simp only at hw1
            have f1 := wrapI (x := L + d1) (by omega) (by omega)
            have hc1' : Hid (whoL r = some (d1, r1)) := hc1
            clear hc1
            go_wp2_with fail
            refine hw1.mono ?_
            rintro e w2 ⟨⟨a6, n6, c6, rfl, hR6⟩, k2⟩
            have hRr1 := hR6 w (by assumption)
            have hx2 := hx.call k2
            have hx3 := hx2.set (p := ⟨wr.heap.size, 0, none⟩) rfl (hx2.tri.set0 (L + d1))
            have s0 := (hx2.tri 0 (by omega)).1
            have s0f := (hx2.tri 0 (by omega)).2
            have hn2 := number_any (hRr1.moreV hx3.row.keep)
            clear hx k2 hw1 hx2 hRr hR6
            simp only [if_true] at s0
            cases hc2 : numL r1 with
            | none =>
              obtain rfl : D = none := (show _ → _ from hDn) (by rw [show _ = _ from hI, rdB, show whoL r = _ from hc1']; simp only; rw [hc2]; rfl)
              rw [hc2] at hn2
              clear hI hDs hc2 hc1'
              go_wp2_with fail
              refine hn2.mono ?_
              rintro e w4 ⟨rfl, k4⟩
              have hx4 := hx3.call k4
              have hx5 := hx4.set (p := ⟨wr.heap.size, 1, none⟩) rfl (hx4.tri.set1 0)
              have s1 := (hx4.tri 1 (by omega)).1
              have s1f := (hx4.tri 1 (by omega)).2
              simp only [if_true] at s1
              go_wp2_with fail
              go_ret2
              exact ⟨rfl, hx5.row.keep⟩
            | some p2 =>
              obtain ⟨n, r2⟩ := p2
              obtain ⟨v0, v1, -, hbr2⟩ := put_num hbr1 hc2
              rw [hc2] at hn2
              simp only at hn2
              have hc2' : Hid (numL r1 = some (n, r2)) := hc2
              clear hc2
              go_wp2_with fail
              refine hn2.mono ?_
              rintro e w4 ⟨⟨a7', n7, c7', rfl, hR7⟩, k4⟩
              have hRr2 := hR7 w (by assumption)
              have hx4 := hx3.call k4
              have hx5 := hx4.set (p := ⟨wr.heap.size, 1, none⟩) rfl (hx4.tri.set1 n)
              have s1 := (hx4.tri 1 (by omega)).1
              have s1f := (hx4.tri 1 (by omega)).2
              simp only [if_true] at s1
              have hw3 := whole_any (hRr2.moreV hx5.row.keep)
              clear hx3 k4 hn2 hx4 hRr1 hR7 s0 s0f
              cases hc3 : whoL r2 with
              | none =>
                obtain rfl : D = none := (show _ → _ from hDn) (by rw [show _ = _ from hI, rdB, show whoL r = _ from hc1']; simp only; rw [show numL r1 = _ from hc2']; simp only; rw [hc3]; rfl)
                rw [hc3] at hw3
                clear hI hDs hc3 hc1' hc2'
                go_wp2_with fail
                refine hw3.mono ?_
                rintro e w6 ⟨rfl, k6⟩
                go_wp2_with fail
                go_ret2
                exact ⟨rfl, (hx5.call k6).row.keep⟩
              | some p3 =>
                obtain ⟨d2, r3⟩ := p3
                obtain ⟨y0, y1, -, hbr3⟩ := put_who hbr2 hc3
                rw [hc3] at hw3
                simp only at hw3
                have hc3' : Hid (whoL r2 = some (d2, r3)) := hc3
                clear hc3
                go_wp2_with fail
                refine hw3.mono ?_
                rintro e w6 ⟨⟨a8, n8, c8, rfl, hR8⟩, k6⟩
                have hRr3 := hR8 w (by assumption)
                have hx6 := hx5.call k6
                have s2 := (hx6.tri 2 (by omega)).1
                have s2f := (hx6.tri 2 (by omega)).2
                clear hx5 k6 hw3 hR8 s1 s1f hRr2
                have hI2 : ∀ X P2, xOf L P d1 n d2 = X → ¬ (d2 ≠ 0 ∧ X.phys < 0) → phN P X = P2 → Hid (rdB N 0 0 b1 = (rdB (N - (i + 1)) (L + d1 + n) P2 r3).map (fun q => ((m ++ [X]) ++ q.1, q.2))) := by
                  intro X P2 e1 e2 e3
                  show _ = _
                  rw [show N - (i + 1) = k from hk', show _ = _ from hI, rdB_more (show whoL r = _ from hc1') (show numL r1 = _ from hc2') (show whoL r2 = _ from hc3') (by rw [e1]; exact e2) m, e1, e3]
                have hno : d2 ≠ 0 ∧ (xOf L P d1 n d2).phys < 0 → D = none := by
                  intro e
                  refine (show _ → _ from hDn) ?_
                  rw [show _ = _ from hI, rdB, show whoL r = _ from hc1']; simp only; rw [show numL r1 = _ from hc2']; simp only; rw [show whoL r2 = _ from hc3']; simp only; rw [if_pos e]; rfl
                have hml' : m.length = i := hml
                clear hI hc1' hc2' hc3' hDn hk'
                have f2 := wrapI (x := L + d1 + n) (by omega) (by omega)
                have g1 := wrapI (x := P + d2) (by omega) (by omega)
                have g2 := wrapI (x := P + d2 - 1) (by omega) (by omega)
                have bL : Hid (-2199023255552 * ((i + 1 : Nat) : Int) ≤ L + d1 + n ∧ L + d1 + n ≤ 2199023255552 * ((i + 1 : Nat) : Int)) := by show _ ∧ _; push_cast; omega
                by_cases hp : 0 < d2
                · have hq : ¬ d2 < 0 := by omega
                  have hX : xOf L P d1 n d2 = ⟨L + d1, n, P + d2 - 1⟩ := by unfold xOf; rw [if_pos hp]
                  have hx7 := hx6.set (p := ⟨wr.heap.size, 2, none⟩) rfl (hx6.tri.set2 (P + d2 - 1))
                  have hne : (d2 != 0) = true := by simp; omega
                  rw [hX] at hno
                  by_cases hph : P + d2 - 1 < 0
                  · obtain rfl : D = none := hno ⟨by omega, hph⟩
                    clear hI2 hno hDs
                    have q2 := hx7.tri.c2
                    go_wp2_with fail
                    go_ret2
                    exact ⟨rfl, hx7.row.keep⟩
                  · have hI3 := hI2 _ (P + d2 - 1 + n) hX (fun e => hph e.2) (by unfold phN; rw [if_neg (by exact hph)])
                    have hph' : 0 ≤ P + d2 - 1 := by omega
                    have f3 := wrapI (x := P + d2 - 1 + n) (by omega) (by omega)
                    have bP : Hid (-2199023255552 * ((i + 1 : Nat) : Int) ≤ P + d2 - 1 + n ∧ P + d2 - 1 + n ≤ 2199023255552 * ((i + 1 : Nat) : Int)) := by show _ ∧ _; push_cast; omega
                    clear hI2 hno hDs hX hx6
                    have q0 := hx7.tri.c0
                    have q1 := hx7.tri.c1
                    have q2 := hx7.tri.c2
                    obtain ⟨a9, c9, w9, hrun, hM9⟩ := hx7.row.app1 (by omega) ⟨L + d1, n, P + d2 - 1⟩
                    rw [show (w6.setCell ⟨wr.heap.size, 2, none⟩ (.int .i64 (P + d2 - 1))).heap.size = w6.heap.size by simp [World.setCell]] at hrun
                    have hl9 : Hid ((m ++ [(⟨L + d1, n, P + d2 - 1⟩ : Rn)]).length = i + 1) := by show _ = _; rw [List.length_append, hml']; rfl
                    rw [hml'] at hrun
                    clear hml hml' hx7 z0 z1 z2 z3 u0 u1 v0 v1 y0 y1
                    simp only at q0 q1 q2
                    go_wp2_with (at_builtin; refine wpList_append_run rfl (.tmp 94) (.tmp 96) 29 rfl (by rfl) (by rfl) hrun ?_)
                    go_roundw
                    case rel => exact ⟨i + 1, n8, c8, c9, a8, a9, _, r3, L + d1 + n, P + d2 - 1 + n, hlt', by go_num, rfl, rfl, rfl, rfl, rfl, hRr3, hM9, hl9, hI3, bL, bP⟩
                    case measure => have : i < N := hlt'; simp [intOf]; omega
                by_cases hq : d2 < 0
                · have hX : xOf L P d1 n d2 = ⟨L + d1, n, P + d2⟩ := by unfold xOf; rw [if_neg hp, if_pos hq]
                  have hx7 := hx6.set (p := ⟨wr.heap.size, 2, none⟩) rfl (hx6.tri.set2 (P + d2))
                  have hne : (d2 != 0) = true := by simp; omega
                  rw [hX] at hno
                  by_cases hph : P + d2 < 0
                  · obtain rfl : D = none := hno ⟨by omega, hph⟩
                    clear hI2 hno hDs
                    have q2 := hx7.tri.c2
                    go_wp2_with fail
                    go_ret2
                    exact ⟨rfl, hx7.row.keep⟩
                  · have hI3 := hI2 _ (P + d2 + n) hX (fun e => hph e.2) (by unfold phN; rw [if_neg (by exact hph)])
                    have hph' : 0 ≤ P + d2 := by omega
                    have f3 := wrapI (x := P + d2 + n) (by omega) (by omega)
                    have bP : Hid (-2199023255552 * ((i + 1 : Nat) : Int) ≤ P + d2 + n ∧ P + d2 + n ≤ 2199023255552 * ((i + 1 : Nat) : Int)) := by show _ ∧ _; push_cast; omega
                    clear hI2 hno hDs hX hx6
                    have q0 := hx7.tri.c0
                    have q1 := hx7.tri.c1
                    have q2 := hx7.tri.c2
                    obtain ⟨a9, c9, w9, hrun, hM9⟩ := hx7.row.app1 (by omega) ⟨L + d1, n, P + d2⟩
                    rw [show (w6.setCell ⟨wr.heap.size, 2, none⟩ (.int .i64 (P + d2))).heap.size = w6.heap.size by simp [World.setCell]] at hrun
                    have hl9 : Hid ((m ++ [(⟨L + d1, n, P + d2⟩ : Rn)]).length = i + 1) := by show _ = _; rw [List.length_append, hml']; rfl
                    rw [hml'] at hrun
                    clear hml hml' hx7 z0 z1 z2 z3 u0 u1 v0 v1 y0 y1
                    simp only at q0 q1 q2
                    go_wp2_with (at_builtin; refine wpList_append_run rfl (.tmp 94) (.tmp 96) 29 rfl (by rfl) (by rfl) hrun ?_)
                    go_roundw
                    case rel => exact ⟨i + 1, n8, c8, c9, a8, a9, _, r3, L + d1 + n, P + d2 + n, hlt', by go_num, rfl, rfl, rfl, rfl, rfl, hRr3, hM9, hl9, hI3, bL, bP⟩
                    case measure => have : i < N := hlt'; simp [intOf]; omega
                · have hX : xOf L P d1 n d2 = ⟨L + d1, n, -1⟩ := by unfold xOf; rw [if_neg hp, if_neg hq]
                  have hd0 : d2 = 0 := by omega
                  have hI3 := hI2 _ P hX (fun e => e.1 hd0) (by unfold phN; rw [if_pos (by show (-1 : Int) < 0; omega)])
                  have bP : Hid (-2199023255552 * ((i + 1 : Nat) : Int) ≤ P ∧ P ≤ 2199023255552 * ((i + 1 : Nat) : Int)) := by show _ ∧ _; push_cast; omega
                  subst hd0
                  clear hI2 hno hDs hX hp hq g1 g2
                  have q0 := hx6.tri.c0
                  have q1 := hx6.tri.c1
                  have q2 := hx6.tri.c2
                  obtain ⟨a9, c9, w9, hrun, hM9⟩ := hx6.row.app1 (by omega) ⟨L + d1, n, -1⟩
                  have hl9 : Hid ((m ++ [(⟨L + d1, n, -1⟩ : Rn)]).length = i + 1) := by show _ = _; rw [List.length_append, hml']; rfl
                  rw [hml'] at hrun
                  clear hml hml' hx6 z0 z1 z2 z3 u0 u1 v0 v1 y0 y1
                  simp only at q0 q1 q2
                  go_wp2_with (at_builtin; refine wpList_append_run rfl (.tmp 94) (.tmp 96) 29 rfl (by rfl) (by rfl) hrun ?_)
                  go_roundw
                  case rel => exact ⟨i + 1, n8, c8, c9, a8, a9, _, r3, L + d1 + n, P, hlt', by go_num, rfl, rfl, rfl, rfl, rfl, hRr3, hM9, hl9, hI3, bL, bP⟩
                  case measure => have : i < N := hlt'; simp [intOf]; omega
        · obtain rfl : i = N := by omega
          have hml' : m.length = i := hml
          have hI' : rdB i 0 0 b1 = some (m, r) := by
            rw [show _ = _ from hI, Nat.sub_self, rdB]; simp
          have hDm := (show ∀ l r, rdB i 0 0 b1 = some (l, r) → D = if r = [] ∧ mayB l = true then some l else none from hDs) m r hI'
          have hnr : r.length = n5 := hRr.1
          clear hI hDs hDn hI' hLP hlt
          by_cases hre : r = []
          · subst hre
            simp only [List.length_nil] at hnr
            subst hnr
            simp only [true_and] at hDm
            have hma := may_any hM.rs.rz
            cases hmb : mayB m with
            | false =>
              rw [hmb] at hDm hma
              obtain rfl : D = none := hDm
              rw [hml'] at hma
              clear hml hml'
              go_wp2_with fail
              refine hma.mono ?_
              rintro e w2 ⟨rfl, k2⟩
              go_wp2_with fail
              go_ret2
              exact ⟨rfl, hM.keep.trans k2⟩
            | true =>
              rw [hmb] at hDm hma
              obtain rfl : D = some m := hDm
              have hrec : recL m = b := ((decL_iff hb).1 (show decL b = _ from hDb)).2
              have hre := fun {w2 : World} (k : Keep (fun _ => False) wr w2) => record_any (hM.rs.rz.more k) (mayB_iff.1 hmb)
              rw [hml'] at hma
              simp only [hml'] at hre
              have hml2 : Hid (m.length = i) := hml
              clear hml hml' hDb hmb
              go_wp2_with fail
              refine hma.mono ?_
              rintro e w2 ⟨rfl, k2⟩
              clear hma
              go_wp2_with fail
              refine (hre k2).mono ?_
              rintro e w3 ⟨g3, c3, rfl, G3⟩
              clear hre
              have hsm := same40 (hrec ▸ G3.row) (hr.moreV ((hM.keep.trans k2).trans G3.keep))
              rw [hrec] at G3 ⊢
              go_wp2_with fail
              refine hsm.mono ?_
              rintro e w4 ⟨rfl, k4⟩
              go_wp2_with fail
              go_ret2
              exact ⟨a7, c7, by rw [show m.length = i from hml2]; rfl, hM.more ((k2.trans G3.keep).trans k4)⟩
          · have hn5 : (0 : Int) < (n5 : Int) := by
              have : 0 < r.length := List.length_pos_iff.2 hre
              omega
            rw [if_neg (fun e => hre e.1)] at hDm
            obtain rfl : D = none := hDm
            clear hml hml' hnr hre
            go_wp2_with fail
            go_ret2
            exact ⟨rfl, hM.keep⟩
end Tg
end Go.Proofs.Ytlekapfhbceibaa
