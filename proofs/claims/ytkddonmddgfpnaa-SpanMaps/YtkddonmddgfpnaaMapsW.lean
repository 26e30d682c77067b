/-
  The statement of either map, walked: it returns true, and whatever was in memory is as it was.
-/
import Derived.Test.YtkddonmddgfpnaaMapsA
import Derived.Deep.CutBlock
namespace Go.Proofs.Ytkddonmddgfpnaa
open Go.ChangeShapes Go.WideShapes Go.ChangeAt Go.RowKit
namespace Tg

/-- A row's cells, from its first on. -/
theorem Rz.hcells {w : World} {ad : Addr} {cap : Nat} {l : List Rn} (h : Rz w (some ad) cap l) : ∀ j u, (rcells l)[j]? = some u → w.cell? (ad.add j) = some u := fun j u hu => by
  have hj := (List.getElem?_eq_some_iff.1 hu).1
  rw [rcells_len] at hj
  obtain ⟨x, hx⟩ := get_rn (m := l) (i := j / 3) (by omega)
  obtain ⟨g', o', e, c0, c1, c2⟩ := h.at hx
  injection e with e
  subst e
  have hr := rcells_at hx (j % 3) (by omega)
  rw [show j / 3 * 3 + j % 3 = j by omega, hu] at hr
  rw [Addr.add_lit]
  have h3 : j % 3 = 0 ∨ j % 3 = 1 ∨ j % 3 = 2 := by omega
  rcases h3 with h3 | h3 | h3
  · rw [h3] at hr; rw [show o' + j = o' + j / 3 * 3 by omega, hr]; exact c0
  · rw [h3] at hr; rw [show o' + j = o' + j / 3 * 3 + 1 by omega, hr]; exact c1
  · rw [h3] at hr; rw [show o' + j = o' + j / 3 * 3 + 2 by omega, hr]; exact c2
/-- A row copied. -/
theorem copy_ops {w : World} {a : Option Addr} {c : Nat} {x : List Rn} (h : Rz w a c x) (hx : x.length ≤ 12) : ∃ a1 c1 w1, (Builtin.append_ #[31, 31] 31 #[.slice (some ⟨w.heap.size, 0, none⟩) 0 0, .slice a x.length c]).run Try.prog (w.alloc (.cells #[] 30)) = .ok (.slice a1 x.length c1) w1 ∧ Rp w w1 a1 c1 x := by
  cases a with
  | none =>
    have : x = [] := by
      rcases h.2.2 with e | ⟨g, o, e, -⟩
      · exact e
      · cases e
    subst this
    exact ⟨_, _, _, run_app_none _ _ _, rp_made w⟩
  | some ad =>
    obtain ⟨a1, c1, w1, h1, h2, -⟩ := (rp_made w).appN ad c x (by simp; omega) (h.more ((Keep.refl _ _).alloc _)).hcells
    rw [List.length_nil, Nat.zero_add] at h1
    exact ⟨a1, c1, w1, h1, h2⟩
set_option maxRecDepth 100000 in
set_option maxHeartbeats 4000000 in
theorem mapsBad {W : World} {cap most : Int} (al : Option Addr) (nl cl : Nat) (hbad : cap < 1 ∨ 512 < cap ∨ most < 1 ∨ 512 < most) :
    Calls Try.prog 4 #[.int .i64 cap, .int .i64 most, .slice al nl cl] W fun e w' => e = .returned (.bool true) ∧ Keep (fun _ => False) W w' := by
  have haw := awake_any W
  have n1 := fun w => newS_no false (w := w) hbad
  have n2 := fun w => newS_no true (w := w) hbad
  go_enter Try.func4, Try.ntmps4
  go_upto_region 3 with (go_at_call 9; refine haw.mono ?_; rintro e w1 ⟨rfl, k1⟩)
  go_wp2_with fail
  refine (n1 _).mono ?_
  rintro e w2 ⟨rfl, k2⟩
  go_wp2_with fail
  refine (n2 _).mono ?_
  rintro e w3 ⟨rfl, k3⟩
  have HK := k1.trans (k2.trans k3)
  clear n1 n2 haw
  by_cases b1 : cap < 1
  · clear hbad
    go_wp2_with fail
    go_ret
    exact ⟨rfl, HK⟩
  by_cases b2 : 512 < cap
  · clear hbad
    go_wp2_with fail
    go_ret
    exact ⟨rfl, HK⟩
  by_cases b3 : most < 1
  · clear hbad
    go_wp2_with fail
    go_ret
    exact ⟨rfl, HK⟩
  have b4 : 512 < most := by omega
  clear hbad
  go_wp2_with fail
  go_ret
  exact ⟨rfl, HK⟩
set_option maxRecDepth 100000 in
set_option maxHeartbeats 8000000 in
theorem mapsW {W : World} {cap most : Int} {al : Option Addr} {nl cl : Nat} (hl : Grid W al nl cl) :
    Calls Try.prog 4 #[.int .i64 cap, .int .i64 most, .slice al nl cl] W fun e w' => e = .returned (.bool true) ∧ Keep (fun _ => False) W w' := by
  by_cases hbad : cap < 1 ∨ 512 < cap ∨ most < 1 ∨ 512 < most
  · exact mapsBad al nl cl hbad
  have haw := awake_any W
  have hlc := hl.1
  have hlc2 := hl.2.1
  obtain ⟨C, rfl⟩ : ∃ C : Nat, cap = (C : Int) := ⟨cap.toNat, by omega⟩
  obtain ⟨N, rfl⟩ : ∃ N : Nat, most = (N : Int) := ⟨most.toNat, by omega⟩
  have hC1 : 1 ≤ C := by omega
  have hC2 : C ≤ 512 := by omega
  have hN1 : 1 ≤ N := by omega
  have hN2 : N ≤ 512 := by omega
  have n1 := fun w => newS false (w := w) hC1 hC2 hN1 hN2
  have n2 := fun w => newS true (w := w) hC1 hC2 hN1 hN2
  clear hbad
  go_enter Try.func4, Try.ntmps4
  go_upto_region 3 with (go_at_call 9; refine haw.mono ?_; rintro e w1 ⟨rfl, k1⟩)
  go_wp2_with fail
  refine (n1 _).mono ?_
  rintro e w2 ⟨qa, Sa, rfl, M2⟩
  go_wp2_with fail
  refine (n2 _).mono ?_
  rintro e w3 ⟨qb, Sb, rfl, M3⟩
  have D3 := Two.new (M2.older k1) M3
  clear n1 n2 haw k1 M2 M3
  by_cases h1 : (12 : Int) < (nl : Int)
  · have HK := D3.a.keep
    clear D3 hl
    go_wp2_with fail
    go_ret
    exact ⟨rfl, HK⟩
  by_cases h2 : (64 : Int) < (C : Int)
  · have HK := D3.a.keep
    clear D3 hl
    go_wp2_with fail
    go_ret
    exact ⟨rfl, HK⟩
  have c4 := new9 (w := w3) (C := C) hC2
  go_wp2_with (go_at_call 13; refine c4.mono ?_; rintro e w4 ⟨at4, ct4, rfl, R4⟩)
  have D4 := D3.more R4.keep
  have I4 := R4.is
  have hB4 : ∀ g, at4 = some ⟨g, 0, none⟩ → w3.heap.size ≤ g := fun g e => (R4.block e).1
  have hSa : ∀ x, Sa x → x < w3.heap.size := fun x e => (D3.a.sw x e).2.1
  have hSb : ∀ x, Sb x → x < w3.heap.size := fun x e => (D3.b.sw x e).2.1
  have hw3 := R4.keep.size
  generalize w3.heap.size = B at hB4 hSa hSb hw3
  generalize List.replicate C (-1 : Int) = t0 at D4 I4
  clear c4 D3 R4
  go_loopw [11, 12] (fun tv v wx => ∃ (i : Nat) (t : List Int) (at1 : Option Addr) (ct : Nat), i ≤ nl ∧ tv = .slice at1 C ct ∧ v = .int .i64 (i : Int) ∧ Two W wx false qa Sa N C t true qb Sb N C t ∧ Is wx at1 ct t ∧ Hid (∀ g, at1 = some ⟨g, 0, none⟩ → B ≤ g) ∧ Hid (B ≤ wx.heap.size)) (fun _ v _ => nl - (intOf v).toNat)
  case atStart => exact ⟨0, t0, at4, ct4, by omega, rfl, rfl, D4, I4, hB4, hw3⟩
  case round =>
    clear D4 I4 hB4 hw3
    obtain ⟨i, t, at1, ct, hi, rfl, rfl, D1, I1, hB1, hw1⟩ := hrel
    by_cases hlt : i < nl
    · obtain ⟨b, o, rfl, hrows⟩ := hl.2.2.resolve_left (by omega)
      obtain ⟨ax, nx, cx, hcell, x, rfl, Rx, fx⟩ := hrows i hlt
      have KW := D1.a.keep
      have e1 := KW.cell hcell
      have hxc := Rx.1
      have hxc2 := Rx.2.1
      have di : (i : Int) < (nl : Int) := by omega
      have dw := wrapI (x := (i : Int) + 1) (by omega) (by omega)
      have hlt' : Hid (i < nl) := hlt
      clear hlt hrows
      by_cases h12 : (x.length : Int) ≤ 12
      · have hCt := D1.a.tl
        have hTb := D1.a.tab
        have hst := fun (w5 : World) (u : List Int) (au : Option Addr) (cu : Nat) (Iu : Is w5 au cu u) (hu : u.length = C) (hb : Tab u) (y : Rn) (hB : B ≤ w5.heap.size) (ha : ∀ g, au = some ⟨g, 0, none⟩ → B ≤ g) => set9_step (N := N) Iu hu hC1 hC2 hb y hB ha
        go_upto_block 2 with fail
        go_cut [13, 14, 15, 16] from 93 to 225 (fun uv bv kv xv wx => ∃ (u : List Int) (au : Option Addr) (cu : Nat), uv = .slice au C cu ∧ bv = .int .i64 (runL N x t).2 ∧ Is wx au cu u ∧ Keep (fun _ => False) wr wx ∧ Hid (∀ g, au = some ⟨g, 0, none⟩ → B ≤ g) ∧ Hid ((runL N x t).2 = 0 → u = (runL N x t).1))
        case first =>
          have hr0 : runL N (x.take 0) t = (t, 0) := by rw [List.take_zero]; rfl
          clear hl D1 hcell
          go_wp2_with fail
          go_loopw [13, 14, 15] (fun uv bv kv wx => ∃ (k : Nat) (u : List Int) (au : Option Addr) (cu : Nat) (bd : Int), k ≤ x.length ∧ uv = .slice au C cu ∧ bv = .int .i64 bd ∧ kv = .int .i64 (k : Int) ∧ Is wx au cu u ∧ Keep (fun _ => False) wr wx ∧ Hid (∀ g, au = some ⟨g, 0, none⟩ → B ≤ g) ∧ Hid (u.length = C ∧ Tab u) ∧ Hid ((bd = 0 ∧ runL N (x.take k) t = (u, 0)) ∨ (bd ≠ 0 ∧ bd = (runL N x t).2))) (fun _ _ kv _ => x.length - (intOf kv).toNat)
          case atStart => exact ⟨0, t, at1, ct, 0, by omega, rfl, rfl, rfl, I1, Keep.refl _ _, hB1, ⟨hCt, hTb⟩, Or.inl ⟨rfl, hr0⟩⟩
          case round =>
            clear I1 hB1 hr0 hCt hTb
            obtain ⟨k, u, au, cu, bd, hk, rfl, rfl, rfl, I2, k2, hB2, hu2, hI2⟩ := hrel
            have e2 := k2.cell e1
            by_cases hkl : k < x.length
            · by_cases hb0 : bd = 0
              · subst hb0
                obtain ⟨y, hy⟩ := get_rn hkl
                have hrun : runL N (x.take k) t = (u, 0) := by
                  rcases (show _ ∨ _ from hI2) with ⟨-, h⟩ | ⟨h, -⟩
                  · exact h
                  · exact absurd rfl h
                obtain ⟨gx, ox, rfl, y0, y1, y2⟩ := (Rx.more (KW.trans k2)).at hy
                have K3 : Keep (fun _ => False) wr (wr.alloc (.cells #[.int .i64 y.lba, .int .i64 y.len, .int .i64 y.phys] 30)) := (Keep.refl _ _).alloc _
                have hB3 : B ≤ (wr.alloc (.cells #[.int .i64 y.lba, .int .i64 y.len, .int .i64 y.phys] 30)).heap.size := by
                  have h1 := k2.size
                  have h2 := K3.size
                  have h3 := (show B ≤ _ from hw1)
                  omega
                have c3 := hst _ u au cu (I2.more K3) hu2.1 hu2.2 y hB3 hB2
                have hnew : Hid (((stepL N u y).2 = 0 ∧ runL N (x.take (k + 1)) t = ((stepL N u y).1, 0)) ∨ ((stepL N u y).2 ≠ 0 ∧ (stepL N u y).2 = (runL N x t).2)) := by
                  show _ ∨ _
                  have hu : (runL N (x.take k) t).1 = u := by rw [hrun]
                  have hz : (runL N (x.take k) t).2 = 0 := by rw [hrun]
                  by_cases hc : (stepL N u y).2 = 0
                  · left
                    refine ⟨hc, ?_⟩
                    rw [take_more hy, runL_good hz (by rw [hu]; exact hc), hu]
                  · right
                    refine ⟨hc, ?_⟩
                    have := runL_bad (b := x.drop (k + 1)) hz (x := y) (by rw [hu]; exact hc)
                    rw [← take_rest hy, hu] at this
                    exact this.symm
                have hu3 : Hid ((stepL N u y).1.length = C ∧ Tab (stepL N u y).1) := ⟨by rw [stepL_len]; exact hu2.1, stepL_ent hu2.2 (by rw [hu2.1]; exact hC2) y⟩
                have dk : (k : Int) < (x.length : Int) := by omega
                have dwk := wrapI (x := (k : Int) + 1) (by omega) (by omega)
                have hkl' : Hid (k < x.length) := hkl
                have k3 := k2.trans K3
                generalize stepL N u y = st at c3 hnew hu3
                clear hst hI2 hrun hkl hy I2 hu2 hB2 Rx fx K3 hB3
                go_wp2_with fail
                refine c3.mono ?_
                rintro e w6 ⟨a6, c6, rfl, I6, k6, hB6⟩
                have k7 := k3.trans k6
                have hB6' : Hid (∀ g, a6 = some ⟨g, 0, none⟩ → B ≤ g) := hB6
                clear c3 k6 hB6
                go_wp2_with fail
                go_roundw
                case rel => exact ⟨k + 1, st.1, a6, c6, st.2, hkl', rfl, rfl, by go_num, I6, k7, hB6', hu3, hnew⟩
                case measure => have : k < x.length := hkl'; simp [intOf]; omega
              · have hbb : (bd == 0) = false := by simp [hb0]
                have hbd : bd = (runL N x t).2 := by
                  rcases (show _ ∨ _ from hI2) with ⟨h, -⟩ | ⟨-, h⟩
                  · exact absurd h hb0
                  · exact h
                have hE : Hid (bd = (runL N x t).2) := hbd
                have hF : Hid ((runL N x t).2 = 0 → u = (runL N x t).1) := fun h => absurd (hbd.trans h) hb0
                have dk : (k : Int) < (x.length : Int) := by omega
                clear hst hI2 hkl Rx fx hb0 hbd
                go_wp2_with fail
                go_meet
                exact ⟨u, au, cu, rfl, by rw [show bd = _ from hE], I2, k2, hB2, hF⟩
            · have ek : k = x.length := by omega
              have hE : Hid (bd = (runL N x t).2 ∧ ((runL N x t).2 = 0 → u = (runL N x t).1)) := by
                show _ ∧ _
                rcases (show _ ∨ _ from hI2) with ⟨h1, h2⟩ | ⟨h1, h2⟩
                · rw [ek, List.take_length] at h2
                  rw [h2]
                  exact ⟨h1, fun _ => rfl⟩
                · exact ⟨h2, fun h => absurd (h2.trans h) h1⟩
              have dk : ¬ (k : Int) < (x.length : Int) := by omega
              clear hst hI2 hkl Rx fx ek
              go_wp2_with fail
              go_meet
              exact ⟨u, au, cu, rfl, by rw [show bd = _ from hE.1], I2, k2, hB2, hE.2⟩
        case rest =>
          obtain ⟨u, au, cu, rfl, rfl, I5, k5, hB5, hU5⟩ := hcut
          clear hst
          go_upto_if 144 with fail
          go_cut [11] from 93 to 225 (fun tv wx => ∃ (at2 : Option Addr) (ct2 : Nat), tv = .slice at2 C ct2 ∧ Is wx at2 ct2 (allL N x t) ∧ wx = wc ∧ Hid (∀ g, at2 = some ⟨g, 0, none⟩ → B ≤ g))
          case first =>
            clear hl D1 hcell Rx fx hCt hTb
            by_cases hz : (runL N x t).2 = 0
            · have hal : Hid (allL N x t = u) := by
                show allL N x t = u
                unfold allL
                rw [if_pos hz]
                exact ((show (runL N x t).2 = 0 → u = (runL N x t).1 from hU5) hz).symm
              have hzb : ((runL N x t).2 == 0) = true := by simp [hz]
              clear hz hU5
              go_wp2_with fail
              go_meet
              exact ⟨au, cu, rfl, by rw [show allL N x t = u from hal]; exact I5, rfl, hB5⟩
            · have hal : Hid (allL N x t = t) := by
                show allL N x t = t
                unfold allL
                rw [if_neg hz]
              have hzb : ((runL N x t).2 == 0) = false := by simp [hz]
              clear hz hU5
              go_wp2_with fail
              go_meet
              exact ⟨at1, ct, rfl, by rw [show allL N x t = t from hal]; exact I1.more k5, rfl, hB1⟩
          case rest =>
            obtain ⟨at2, ct2, rfl, I6, rfl, hB6⟩ := hcut
            have D5 := D1.more k5
            have hw5 : B ≤ wc.heap.size := Nat.le_trans (show B ≤ _ from hw1) k5.size
            clear I5 hB5 hU5 I1 hB1 k5 D1 hCt hTb e1 KW
            have KC := D5.a.keep
            have e5 := KC.cell hcell
            have hblt : b < wc.heap.size := World.block_lt_of_cell? wc _ e5
            have hbne : ¬ b = wc.heap.size := by omega
            have e5' := ((Keep.refl (fun _ => False) wc).alloc (.cells #[] 30)).cell e5
            obtain ⟨a1, c1, w1', happ1, P1⟩ := copy_ops (Rx.more KC) (by omega)
            obtain ⟨a2, c2, w2', happ2, P2⟩ := P1.app1 (by omega) ⟨7, 0, 0⟩
            obtain ⟨g2, rfl, -⟩ := P2.rs.at (i := x.length) (x := ⟨7, 0, 0⟩) (by simp)
            have hg2 : wc.heap.size ≤ g2 := (P2.block rfl).1
            have hc2 := P2.rs.1
            have hc3 := P2.rs.2.1
            rw [List.length_append, List.length_singleton] at hc2
            have S6 := P2.rs
            have D6 := D5.more P2.keep
            have hw6 : B ≤ w2'.heap.size := Nat.le_trans hw5 P2.keep.size
            have I7 := I6.more P2.keep
            have e6 := D6.a.keep.cell hcell
            have hnl : (x ++ [(⟨7, 0, 0⟩ : Rn)]).take x.length = x := by simp
            have T6 : Rz w2' (some ⟨g2, 0, none⟩) c2 x := by
              have := S6.rz.take x.length
              rwa [hnl] at this
            have ca := apply_any D6.a T6 fx (fun g' o' e _ hs => by
              injection e with e; injection e with e1 e2; subst e1
              have := hSa _ hs; omega)
            have cb := fun (w7 : World) (D7 : Two W w7 false qa Sa N C (allL N x t) true qb Sb N C t) (T7 : Rz w7 (some ⟨g2, 0, none⟩) c2 x) => apply_any D7.b T7 fx (fun g' o' e _ hs => by
              injection e with e; injection e with e1 e2; subst e1
              have := hSb _ hs; omega)
            unfold Apd at ca cb
            clear I6 P1 P2 D5 KC
            have hng : ¬ Sa g2 := fun e => by have := hSa _ e; omega
            have hngb : ¬ Sb g2 := fun e => by have := hSb _ e; omega
            generalize (runL N x t).2 = r at ca cb ⊢
            have hrr : (r != r) = false := by simp
            have dn1 : (x.length : Int) ≤ (c2 : Int) := by omega
            have dn2 : (x.length : Int) ≤ (x.length : Int) + 1 := by omega
            go_upto_region 23 with (first | (at_builtin; refine wpList_append_run rfl (.tmp 146) (.tmp 150) 31 rfl (by rfl) (by rfl) happ1 ?_) | (at_builtin; refine wpList_append_run rfl (.tmp 151) (.tmp 153) 31 rfl (by rfl) (by rfl) happ2 ?_))
            clear happ1 happ2 e5 e5' hblt hbne
            go_wp2_with fail
            refine ca.mono ?_
            rintro e w7 ⟨rfl, A7, k7⟩
            have D7 := D6.setA A7 k7
            have S7 := S6.keep k7 (fun g e => by injection e with e; injection e with e; subst e; exact hng)
            have I8 := I7.keep k7 (fun g e hs => by have := (show ∀ g, at2 = some ⟨g, 0, none⟩ → B ≤ g from hB6) g e; have := hSa _ hs; omega)
            have T7 := T6.keep k7 (fun g' o' e _ => by injection e with e; injection e with e1 e2; subst e1; exact hng)
            have e7 := D7.a.keep.cell hcell
            have cb' := cb w7 D7 T7
            have hw7 : B ≤ w7.heap.size := by have := k7.size; omega
            clear ca cb D6 S6 I7 T6 e6 A7 k7
            go_wp2_with fail
            refine cb'.mono ?_
            rintro e w8 ⟨rfl, B8, k8⟩
            have D8 := D7.setB B8 k8
            have S8 := S7.keep k8 (fun g e => by injection e with e; injection e with e; subst e; exact hngb)
            have I9 := I8.keep k8 (fun g e hs => by have := (show ∀ g, at2 = some ⟨g, 0, none⟩ → B ≤ g from hB6) g e; have := hSb _ hs; omega)
            have hw8 : B ≤ w8.heap.size := by have := k8.size; omega
            clear cb' D7 S7 I8 T7 e7 B8 k8
            go_wp2_with fail
            go_loopw [18] (fun v wx => ∃ k : Nat, k ≤ x.length ∧ v = .int .i64 (k : Int) ∧ Keep (fun _ => False) w8 wx) (fun v _ => x.length - (intOf v).toNat)
            case atStart => exact ⟨0, by omega, rfl, Keep.refl _ _⟩
            case round =>
              obtain ⟨k, hk, rfl, k9⟩ := hrel
              have D9 := D8.more k9
              have e9 := D9.a.keep.cell hcell
              by_cases hkl : k < x.length
              · obtain ⟨z, hz⟩ := get_rn hkl
                obtain ⟨gx, ox, rfl, y0, y1, y2⟩ := (Rx.more D9.a.keep).at hz
                obtain ⟨g2', eg, v0, v1, v2⟩ := (S8.more k9).at (i := k) (x := z) (by rw [List.getElem?_append_left hkl]; exact hz)
                injection eg with eg; injection eg with eg; subst eg
                have dk : (k : Int) < (x.length : Int) := by omega
                have dk2 : (k : Int) < (x.length : Int) + 1 := by omega
                have dwk := wrapI (x := (k : Int) + 1) (by omega) (by omega)
                have hkl' : Hid (k < x.length) := hkl
                clear hkl hz D8 D9 S8 I9 Rx fx hl
                go_upto_region 28 with fail
                go_quiet (fail)
                go_wp2_with fail
                go_roundw
                case rel => exact ⟨k + 1, hkl', by go_num, k9.drewN _⟩
                case measure => have : k < x.length := hkl'; simp [intOf]; omega
              · have dk : ¬ (k : Int) < (x.length : Int) := by omega
                have I10 := I9.more k9
                have c11 := runs9 I10 (by rw [D9.a.tl]; exact hC2) D9.a.tab
                rw [D9.a.tl] at c11
                have hw10 : B ≤ wr.heap.size := by have := k9.size; omega
                clear hkl D8 S8 I9 Rx fx hl k9
                have hfm := D9.a.formP
                have hm512 := D9.a.len512
                have ra := fun w1 (k : Keep (fun _ => False) wr w1) => (D9.a.more k).runs
                have rb := fun w1 (k : Keep (fun _ => False) wr w1) => (D9.b.more k).runs
                have cs := fun w1 (k : Keep (fun _ => False) wr w1) => sameS (D9.a.more k) (D9.b.more k)
                have ev1 : mapV false qa = .iface 44 (.pointer (some ⟨qa, 0, none⟩)) := rfl
                have ev2 : mapV true qb = .iface 47 (.pointer (some ⟨qb, 0, none⟩)) := rfl
                rw [ev1, ev2] at cs
                have hD := fun w1 (k : Keep (fun _ => False) wr w1) => D9.more k
                have hI := fun w1 (k : Keep (fun _ => False) wr w1) => I10.more k
                generalize allL N x t = t2 at c11 hfm hm512 ra rb cs hD hI
                generalize refR t2 C = m at c11 hfm hm512 ra rb cs
                rw [sameL_refl, show decide (C = C) = true from decide_eq_true rfl, show (true && true) = true from rfl] at cs
                unfold fRuns at ra rb
                clear D9 I10
                go_upto_region 31 with (go_at_call 15; refine c11.mono ?_; rintro e w11 ⟨a11, d11, rfl, R11⟩)
                have k11 := R11.keep
                have S11 := R11.rs
                clear c11 R11 e9
                have ev1' : Hid (mapV false qa = .iface 44 (.pointer (some ⟨qa, 0, none⟩))) := ev1
                have ev2' : Hid (mapV true qb = .iface 47 (.pointer (some ⟨qb, 0, none⟩))) := ev2
                clear ev1 ev2
                have m1 := mRuns44 qa
                have m2 := mRuns47 qb
                go_wp2_with fail
                refine (ra w11 k11).mono ?_
                rintro e w12 ⟨a12, d12, rfl, R12, k12', -⟩
                have k12 := k11.trans k12'
                have S12 := S11.more k12'
                have c13 := same9 R12 S12 (by omega)
                rw [sameL_refl] at c13
                clear k12' S11 k11
                go_wp2_with fail
                refine c13.mono ?_
                rintro e w13 ⟨rfl, k13'⟩
                have k13 := k12.trans k13'
                have S13 := S12.more k13'
                clear c13 k13' S12 R12 k12
                go_wp2_with fail
                refine (rb w13 k13).mono ?_
                rintro e w14 ⟨a14, d14, rfl, R14, k14', -⟩
                have k14 := k13.trans k14'
                have S14 := S13.more k14'
                have c15 := same9 R14 S14 (by omega)
                rw [sameL_refl] at c15
                clear k14' S13 k13 rb
                go_wp2_with fail
                refine c15.mono ?_
                rintro e w15 ⟨rfl, k15'⟩
                have k15 := k14.trans k15'
                clear c15 k15' S14 R14 k14
                have c16 := cs w15 k15
                clear cs
                go_wp2_with fail
                refine c16.mono ?_
                rintro e w16 ⟨rfl, k16'⟩
                have k16 := k15.trans k16'
                clear c16 k16' k15
                go_wp2_with fail
                refine (ra w16 k16).mono ?_
                rintro e w17 ⟨a17, d17, rfl, R17, k17', -⟩
                have k17 := k16.trans k17'
                have c18 := form_any R17.rz (by omega)
                rw [hfm] at c18
                clear k17' k16 ra R17
                go_wp2_with fail
                refine c18.mono ?_
                rintro e w18 ⟨rfl, k18'⟩
                have k18 := k17.trans k18'
                have D18 := hD w18 k18
                have I18 := hI w18 k18
                have hw18 : Hid (B ≤ w18.heap.size) := Nat.le_trans hw10 k18.size
                clear c18 k18' k17 hD hI k18 m1 m2
                go_wp2_with fail
                rw [← show mapV false qa = .iface 44 (.pointer (some ⟨qa, 0, none⟩)) from ev1', ← show mapV true qb = .iface 47 (.pointer (some ⟨qb, 0, none⟩)) from ev2']
                go_roundw
                case rel => exact ⟨i + 1, t2, at2, ct2, hlt', rfl, by go_num, D18, I18, hB6, hw18⟩
                case measure => have : i < nl := hlt'; simp [intOf]; omega
      · clear hl Rx fx
        have HW := D1.a.keep
        have t1 := tree_any false qa wr
        have t2 := tree_any true qb wr
        have f1 := flat_any false qa wr
        have f2 := flat_any true qb wr
        have kd1 := kind_any false qa wr
        have kd2 := kind_any true qb wr
        have mt := fun w => mustTree_any qa w
        have ra := fun w1 (k : Keep (fun _ => False) wr w1) => (D1.a.more k).runs
        have tb := fun w1 (k : Keep (fun _ => False) wr w1) => ftable (D1.b.more k).ex.2
        have hm512 := D1.a.len512
        generalize refR t C = m at ra hm512
        unfold mapV at t1 t2 f1 f2 kd1 kd2 mt
        unfold treeV at t1 t2
        unfold flatV at f1 f2
        unfold kindV at kd1 kd2
        unfold fRuns at ra
        have m1 := mRuns44 qa
        have hpe := ptr_eql qa
        clear D1 I1 hB1 hw1
        go_upto_region 33 with fail
        unfold mapV
        go_wp2_with fail
        refine t1.mono ?_
        rintro e wz ⟨rfl, ez⟩; have ez := ez.symm; subst ez
        go_wp2_with fail
        refine f1.mono ?_
        rintro e wz ⟨rfl, ez⟩; have ez := ez.symm; subst ez
        go_wp2_with fail
        refine f2.mono ?_
        rintro e wz ⟨rfl, ez⟩; have ez := ez.symm; subst ez
        go_wp2_with fail
        refine t2.mono ?_
        rintro e wz ⟨rfl, ez⟩; have ez := ez.symm; subst ez
        clear t1 f1 f2 t2
        go_wp2_with fail
        refine kd1.mono ?_
        rintro e wz ⟨rfl, ez⟩; have ez := ez.symm; subst ez
        go_wp2_with fail
        refine kd2.mono ?_
        rintro e wz ⟨rfl, ez⟩; have ez := ez.symm; subst ez
        clear kd1 kd2
        go_wp2_with fail
        refine (ra wr (Keep.refl _ _)).mono ?_
        rintro e w5 ⟨a5, d5, rfl, R5, k5, -⟩
        go_wp2_with fail
        refine (ra w5 k5).mono ?_
        rintro e w6 ⟨a6, d6, rfl, R6, k6', -⟩
        have k6 := k5.trans k6'
        have c7 := same9 (R5.more k6') R6 (by omega)
        rw [sameL_refl] at c7
        clear ra R5 k6' k5
        go_wp2_with fail
        refine c7.mono ?_
        rintro e w7 ⟨rfl, k7'⟩
        have k7 := k6.trans k7'
        have c8 := tb w7 k7
        clear c7 k7' R6 k6 tb
        go_wp2_with fail
        refine c8.mono ?_
        rintro e w8 ⟨a8, d8, rfl, R8⟩
        have HK := HW.trans (k7.trans R8.keep)
        clear c8 R8 k7
        go_wp2_with fail
        refine (mt _).mono ?_
        rintro e wz ⟨rfl, ez⟩; have ez := ez.symm; subst ez
        clear mt
        have hcc : ((C : Int) == (C : Int)) = true := by simp
        go_wp2_with fail
        go_ret
        exact ⟨rfl, HK⟩
    · have di : ¬ (i : Int) < (nl : Int) := by omega
      clear hlt hl
      have HW := D1.a.keep
      have t1 := tree_any false qa wr
      have t2 := tree_any true qb wr
      have f1 := flat_any false qa wr
      have f2 := flat_any true qb wr
      have kd1 := kind_any false qa wr
      have kd2 := kind_any true qb wr
      have mt := fun w => mustTree_any qa w
      have ra := fun w1 (k : Keep (fun _ => False) wr w1) => (D1.a.more k).runs
      have tb := fun w1 (k : Keep (fun _ => False) wr w1) => ftable (D1.b.more k).ex.2
      have hm512 := D1.a.len512
      generalize refR t C = m at ra hm512
      unfold mapV at t1 t2 f1 f2 kd1 kd2 mt
      unfold treeV at t1 t2
      unfold flatV at f1 f2
      unfold kindV at kd1 kd2
      unfold fRuns at ra
      have m1 := mRuns44 qa
      have hpe := ptr_eql qa
      clear D1 I1 hB1 hw1
      go_upto_region 33 with fail
      unfold mapV
      go_wp2_with fail
      refine t1.mono ?_
      rintro e wz ⟨rfl, ez⟩; have ez := ez.symm; subst ez
      go_wp2_with fail
      refine f1.mono ?_
      rintro e wz ⟨rfl, ez⟩; have ez := ez.symm; subst ez
      go_wp2_with fail
      refine f2.mono ?_
      rintro e wz ⟨rfl, ez⟩; have ez := ez.symm; subst ez
      go_wp2_with fail
      refine t2.mono ?_
      rintro e wz ⟨rfl, ez⟩; have ez := ez.symm; subst ez
      clear t1 f1 f2 t2
      go_wp2_with fail
      refine kd1.mono ?_
      rintro e wz ⟨rfl, ez⟩; have ez := ez.symm; subst ez
      go_wp2_with fail
      refine kd2.mono ?_
      rintro e wz ⟨rfl, ez⟩; have ez := ez.symm; subst ez
      clear kd1 kd2
      go_wp2_with fail
      refine (ra wr (Keep.refl _ _)).mono ?_
      rintro e w5 ⟨a5, d5, rfl, R5, k5, -⟩
      go_wp2_with fail
      refine (ra w5 k5).mono ?_
      rintro e w6 ⟨a6, d6, rfl, R6, k6', -⟩
      have k6 := k5.trans k6'
      have c7 := same9 (R5.more k6') R6 (by omega)
      rw [sameL_refl] at c7
      clear ra R5 k6' k5
      go_wp2_with fail
      refine c7.mono ?_
      rintro e w7 ⟨rfl, k7'⟩
      have k7 := k6.trans k7'
      have c8 := tb w7 k7
      clear c7 k7' R6 k6 tb
      go_wp2_with fail
      refine c8.mono ?_
      rintro e w8 ⟨a8, d8, rfl, R8⟩
      have HK := HW.trans (k7.trans R8.keep)
      clear c8 R8 k7
      go_wp2_with fail
      refine (mt _).mono ?_
      rintro e wz ⟨rfl, ez⟩; have ez := ez.symm; subst ez
      clear mt
      have hcc : ((C : Int) == (C : Int)) = true := by simp
      go_wp2_with fail
      go_ret
      exact ⟨rfl, HK⟩
theorem maps_walk {W : World} (cap most : Int) {al : Option Addr} {nl cl : Nat} (hl : Grid W al nl cl) :
    Calls Try.prog 4 #[.int .i64 cap, .int .i64 most, .slice al nl cl] W fun e w' => e = .returned (.bool true) ∧ Below W.heap.size W w' :=
  (mapsW hl).mono fun _ _ ⟨h1, h2⟩ => ⟨h1, h2.below (Nat.le_refl _) (fun _ e => e.elim)⟩
end Tg
end Go.Proofs.Ytkddonmddgfpnaa
