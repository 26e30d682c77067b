/-
  What Range tells, piece by piece set again, changes nothing; runs set into an empty map make the same.
-/
import Derived.Test.YtobljchpphcolaaFormW
import Derived.Deep.RegionHeld3
namespace Go.Proofs.Ytobljchpphcolaa
open Go.ChangeShapes Go.WideShapes Go.ChangeAt Go.RowKit
namespace Tg

/-- The runs set from the last to the first into an empty map, those beyond the pages of a Set passed over. -/
def bk : List Rn → List Rn
  | [] => []
  | x :: m => if x.phys ≤ 1048576 then setL x (bk m) else bk m
theorem bk_all : ∀ {m : List Rn}, farL m = false → bk m = m.foldr setL []
  | [], _ => rfl
  | x :: m, h => by
    have h1 : decide (1048576 < x.phys) = false ∧ farL m = false := by simpa [farL, List.any_cons] using h
    have h2 := of_decide_eq_false h1.1
    rw [bk, if_pos (by omega), bk_all h1.2]; rfl
theorem bk_end {m : List Rn} (h : Form m) (hs : sameL (bk m) m = false) : farL m = true := by
  cases hf : farL m with
  | true => rfl
  | false =>
    rw [bk_all hf, setL_all h, sameL_iff.2 rfl] at hs
    cases hs
theorem bk_drop {m : List Rn} {j : Nat} {x : Rn} (hx : m[j]? = some x) : bk (m.drop j) = if x.phys ≤ 1048576 then setL x (bk (m.drop (j + 1))) else bk (m.drop (j + 1)) := by
  have h := List.getElem?_eq_some_iff.1 hx
  rw [List.drop_eq_getElem_cons h.1, h.2]; rfl
/-- A change leaves what was in memory ahead of the map. -/
theorem own_cell {W wr w' : World} {q b p k N cap : Nat} {m : List Rn} (h : Mp W wr q b p k N cap m) (hk : Keep (Own3 b p k) wr w') {a : Addr} {v : Value} (hw : W.cell? a = some v) : w'.cell? a = some v := by
  have h1 := h.keep.cell hw
  have hb := h.blocks
  have hl := World.block_lt_of_cell? W _ hw
  rw [← h1]
  exact World.cell?_of_block (w := wr) (hk.block a.block (World.block_lt_of_cell? wr _ h1) (by rintro (e | e | e) <;> omega))

set_option maxRecDepth 100000 in
set_option maxHeartbeats 4000000 in
theorem again_any {W : World} {cap : Int} {a : Option Addr} {len c : Nat} (hA : Acts W a len c) {lba n : Int} (hlb : -9223372036854775808 ≤ lba ∧ lba ≤ 9223372036854775807) :
    Calls Try.prog 5 #[.int .i64 cap, .slice a len c, .int .i64 lba, .int .i64 n] W fun e w' => e = .returned (.bool true) ∧ Keep (fun _ => False) W w' := by
  have haw := awake_any W
  have hlc := hA.1
  have hlc2 := hA.2.1
  by_cases hcap : cap < 1 ∨ 512 < cap
  · have hn := fun w => newMap_no (w := w) (c := cap) (n := 512) (by omega)
    clear hA hcap
    go_enter Try.func5, Try.ntmps5
    go_wp2_with (first | (go_at_call 8; refine haw.mono ?_; rintro e w2 ⟨rfl, k2⟩) | (go_at_call 9; refine (hn _).mono ?_; rintro e w3 ⟨rfl, k3⟩))
    go_ret
    exact ⟨rfl, k2.trans k3⟩
  obtain ⟨C, rfl⟩ : ∃ C : Nat, cap = (C : Int) := ⟨cap.toNat, by omega⟩
  have hC1 : 1 ≤ C := by omega
  have hC2 : C ≤ 512 := by omega
  have n1 := fun w => newMap_any (w := w) (cap := C) (N := 512) hC1 hC2 (by omega) (by omega)
  rw [show ((512 : Nat) : Int) = 512 from rfl] at n1
  clear hcap
  go_enter Try.func5, Try.ntmps5
  go_upto_region 4 with (first | (go_at_call 8; refine haw.mono ?_; rintro e w2 ⟨rfl, k2⟩) | (go_at_call 9; refine (n1 _).mono ?_; rintro e w3 ⟨q, b, p, k, rfl, M3⟩))
  clear haw
  have M4 := M3.older k2
  clear M3
  by_cases c1 : (40 : Int) < len
  · have HK := M4.keep
    clear hA M4
    go_wp2_with fail
    go_ret
    exact ⟨rfl, HK⟩
  have hl40 : len ≤ 40 := by omega
  go_wp2_with fail
  clear c1
  go_loopw [11] (fun v wx => ∃ (i : Nat) (m : List Rn), i ≤ len ∧ v = .int .i64 (i : Int) ∧ Mp W wx q b p k 512 C m) (fun v _ => len - (intOf v).toNat)
  case atStart => exact ⟨0, [], by omega, rfl, M4⟩
  case round =>
    clear M4
    obtain ⟨i, m, hi, rfl, M1⟩ := hrel
    by_cases hlt : i < len
    · obtain ⟨ab, ao, rfl, h, hh, y0, y1, y2, y3⟩ := hA.at hlt
      have M1d : Mp W wr.drew q b p k 512 C m := M1.more ((Keep.refl _ _).drew)
      have hS := fun (w' : World) (hk : Keep (Own3 b p k) wr.drew w') => And.intro (own_cell M1d hk y1) (And.intro (own_cell M1d hk y2) (own_cell M1d hk y3))
      have e0 := M1.keep.cell y0
      have di : (i : Int) < (len : Int) := by omega
      have dw := wrapI (x := (i : Int) + 1) (by omega) (by omega)
      have hlt' : Hid (i < len) := hlt
      by_cases c0 : h 0 = 0
      · have hs := set_any9 M1d h hh c0
        have cb : (h 0 == 0) = true := by simp [c0]
        clear c0 hlt hA n1 M1 M1d y0 y1 y2 y3
        generalize oneL (C : Int) h m = m' at hs
        go_upto_region 10 with fail
        go_region_held3 (fun w' => w'.cell? ⟨ab, ao + i * 4 + 1, none⟩ = some (.int .i64 (h 1)) ∧ w'.cell? ⟨ab, ao + i * 4 + 2, none⟩ = some (.int .i64 (h 2)) ∧ w'.cell? ⟨ab, ao + i * 4 + 3, none⟩ = some (.int .i64 (h 3))) (first | exact hS _ (Keep.refl _ _) | exact hS _ k5) ((go_at_call 10; refine hs.mono ?_; rintro e w5 ⟨⟨c5, rfl⟩, M5, k5⟩))
        clear hS hs e0
        go_wp2_with fail
        go_roundw
        case rel => exact ⟨i + 1, _, hlt', by go_num, M5⟩
        case measure => have : i < len := hlt'; simp [intOf]; omega
      · have hs := clear_any9 M1d h hh c0
        have cb : (h 0 == 0) = false := by simp [c0]
        have hS2 := fun (w' : World) (hk : Keep (Own3 b p k) wr.drew w') => And.intro (hS w' hk).1 (hS w' hk).2.1
        clear c0 hlt hA n1 M1 M1d y0 y1 y2 y3 hS
        generalize oneL (C : Int) h m = m' at hs
        go_upto_region 11 with fail
        go_region_held3 (fun w' => w'.cell? ⟨ab, ao + i * 4 + 1, none⟩ = some (.int .i64 (h 1)) ∧ w'.cell? ⟨ab, ao + i * 4 + 2, none⟩ = some (.int .i64 (h 2))) (first | exact hS2 _ (Keep.refl _ _) | exact hS2 _ k5) ((go_at_call 11; refine hs.mono ?_; rintro e w5 ⟨⟨c5, rfl⟩, M5, k5⟩))
        clear hS2 hs e0
        go_wp2_with fail
        go_roundw
        case rel => exact ⟨i + 1, _, hlt', by go_num, M5⟩
        case measure => have : i < len := hlt'; simp [intOf]; omega
    · have di : ¬ (i : Int) < (len : Int) := by omega
      have hml := M1.len
      have r1 := runs_any M1
      have oG : ¬ Own3 b p k wr.heap.size := M1.out (Nat.le_refl _)
      generalize wr.heap.size = G at r1 oG
      clear hA hlt hlc hlc2
      go_upto_region 13 with (go_at_call 16; refine r1.mono ?_; rintro e w5 ⟨rfl, s5, k5⟩)
      have M5 := M1.more k5
      have s5 := s5.rs (by omega)
      clear r1 M1 k5
      cases o1 : okR (C : Int) lba n with
      | false =>
        have hr := range_no M5 hlb.2 o1
        have HK := M5.keep
        clear M5 s5 n1
        go_wp2_with (go_at_call 17; refine hr.mono ?_; rintro e w6 ⟨rfl, k6⟩)
        go_ret
        exact ⟨rfl, HK.trans k6⟩
      | true =>
      obtain ⟨a1, a2, a3⟩ := okR_iff.1 o1
      have hr := range_any M5 a2 a1 (by omega)
      go_upto_region 14 with (go_at_call 17; refine hr.mono ?_; rintro e w6 ⟨pa, pc, ps, rfl, hcut, r6, hpl⟩)
      have M6 := M5.more r6.keep
      have s6 := s5.more r6.keep
      have p6 := r6.rs
      have oP : ∀ g, pa = some ⟨g, 0, none⟩ → ¬ Own3 b p k g := fun g e => M5.out (r6.block e).1
      have hmem := hcut.mem
      have hmem' : Hid (∀ x ∈ ps, lba ≤ x.lba ∧ 1 ≤ x.len ∧ -1 ≤ x.phys ∧ x.fin ≤ lba + n ∧ ∀ s, x.lba ≤ s → s < x.fin → Fit (page m) x s) := hmem
      have hpl' : ps.length ≤ 512 := by omega
      have hpc := p6.1
      clear hr M5 s5 r6 hcut hmem hpl
      go_wp2_with fail
      go_loopw [14] (fun v wx => ∃ i : Nat, i ≤ ps.length ∧ v = .int .i64 (i : Int) ∧ Mp W wx q b p k 512 C m ∧ Keep (Own3 b p k) w6 wx) (fun v _ => ps.length - (intOf v).toNat)
      case atStart => exact ⟨0, by omega, rfl, M6, Keep.refl _ _⟩
      case round =>
        clear M6
        obtain ⟨i, hi, rfl, M7, k7⟩ := hrel
        have p7 := p6.keep k7 oP
        by_cases hlt : i < ps.length
        · obtain ⟨x, hx⟩ := get_rn hlt
          obtain ⟨x1, x2, x3, x4, x5⟩ := hmem' x (List.mem_of_getElem? hx)
          obtain ⟨g, rfl, e0, e1, e2⟩ := p7.at hx
          have og := oP g rfl
          have hfs := fit_same M7.form (show 0 ≤ x.lba by omega) x2 x5
          have M7d : Mp W wr.drew q b p k 512 C m := M7.more ((Keep.refl _ _).drew)
          have hS := fun (w' : World) (hk : Keep (Own3 b p k) wr.drew w') => And.intro ((World.cell?_of_block (w := wr.drew) (a := ⟨g, i * 3, none⟩) (hk.block g (World.block_lt_of_cell? wr _ e0) og)).trans e0) (And.intro ((World.cell?_of_block (w := wr.drew) (a := ⟨g, i * 3 + 1, none⟩) (hk.block g (World.block_lt_of_cell? wr _ e0) og)).trans e1) ((World.cell?_of_block (w := wr.drew) (a := ⟨g, i * 3 + 2, none⟩) (hk.block g (World.block_lt_of_cell? wr _ e0) og)).trans e2))
          have di : (i : Int) < (ps.length : Int) := by omega
          have dw := wrapI (x := (i : Int) + 1) (by omega) (by omega)
          have hlt' : Hid (i < ps.length) := hlt
          by_cases cx : x.phys < 0
          · rw [if_pos cx] at hfs
            have hs := clear_fits M7d (lba := x.lba) (n := x.len) (by omega) x2 (by unfold Rn.fin at x4; omega)
            rw [show clearL x.lba (x.lba + x.len) m = m from hfs] at hs
            have hS2 := fun (w' : World) (hk : Keep (Own3 b p k) wr.drew w') => And.intro (hS w' hk).1 (hS w' hk).2.1
            clear hfs hlt hx M7 M7d hS x5 n1
            go_upto_region 20 with fail
            go_region_held3 (fun w' => w'.cell? ⟨g, i * 3, none⟩ = some (.int .i64 x.lba) ∧ w'.cell? ⟨g, i * 3 + 1, none⟩ = some (.int .i64 x.len)) (first | exact hS2 _ (Keep.refl _ _) | exact hS2 _ k8) ((go_at_call 11; refine hs.mono ?_; rintro e w8 ⟨rfl, M8, k8⟩))
            have K8 := (k7.drew).trans k8
            clear hS2 hs e0 e1 e2
            go_wp2_with fail
            go_roundw
            case rel => exact ⟨i + 1, hlt', by go_num, M8, K8⟩
            case measure => have : i < ps.length := hlt'; simp [intOf]; omega
          · rw [if_neg cx] at hfs
            by_cases cm : x.phys ≤ 1048576
            · have hs := set_fits M7d (r := x) (by omega) x2 (by unfold Rn.fin at x4; omega) (by omega) cm
              rw [hfs] at hs
              have cmd : decide (x.phys ≤ 1048576) = true := decide_eq_true cm
              clear hfs hlt hx M7 M7d x5 n1
              go_upto_region 22 with fail
              go_region_held3 (fun w' => w'.cell? ⟨g, i * 3, none⟩ = some (.int .i64 x.lba) ∧ w'.cell? ⟨g, i * 3 + 1, none⟩ = some (.int .i64 x.len) ∧ w'.cell? ⟨g, i * 3 + 2, none⟩ = some (.int .i64 x.phys)) (first | exact hS _ (Keep.refl _ _) | exact hS _ k8) ((go_at_call 10; refine hs.mono ?_; rintro e w8 ⟨rfl, M8, k8⟩))
              have K8 := (k7.drew).trans k8
              clear hS hs e0 e1 e2
              go_wp2_with fail
              go_roundw
              case rel => exact ⟨i + 1, hlt', by go_num, M8, K8⟩
              case measure => have : i < ps.length := hlt'; simp [intOf]; omega
            · have cmd : decide (x.phys ≤ 1048576) = false := decide_eq_false cm
              clear hfs hlt hx M7d x5 n1 hS
              go_upto_region 22 with fail
              go_quiet (fail)
              have M8 := M7.more ((Keep.refl (fun _ => False) wr).drewN nq)
              have K8 := k7.next ((Keep.refl (fun _ => False) wr).drewN nq) (fun _ _ e => e.elim)
              generalize wr.drewN nq = w8 at M8 K8 ⊢
              clear M7 e0 e1 e2
              go_wp2_with fail
              go_roundw
              case rel => exact ⟨i + 1, hlt', by go_num, M8, K8⟩
              case measure => have : i < ps.length := hlt'; simp [intOf]; omega
        · have di : ¬ (i : Int) < (ps.length : Int) := by omega
          have s7 := s6.keep k7 (fun g e => by injection e with e; injection e with e; subst e; exact oG)
          have fm := M7.form
          have hbd : ∀ x ∈ m, x.lba + x.len ≤ 512 ∧ x.phys + x.len ≤ 1049088 := fun x hx => by have := M7.run hx; omega
          have hlim : Hid (∀ x ∈ m, x.Ok ∧ x.lba + x.len ≤ (C : Int)) := fun x hx => ⟨fm.1 x hx, by have := M7.run hx; omega⟩
          have r1 := runs_any M7
          clear hlt p7 p6 oP hmem' hpc
          go_wp2_with fail
          refine r1.mono ?_
          rintro e w8 ⟨rfl, t8, k8⟩
          have M8 := M7.more k8
          have s8 := s7.more k8
          have sm := same9 (t8.rs (by omega)) s8 (by omega)
          rw [sameL_iff.2 rfl] at sm
          clear r1 M7 s7
          go_wp2_with fail
          refine sm.mono ?_
          rintro e w9 ⟨rfl, k9⟩
          have M9 := M8.more k9
          have s9 := s8.more k9
          have fo := form9 s9 fm hbd (by omega)
          clear sm t8 M8 s8
          go_wp2_with fail
          refine fo.mono ?_
          rintro e w10 ⟨rfl, k10⟩
          have M10 := M9.more k10
          have s10 := s9.more k10
          have wh := whole_any M10 s10
          clear fo M9 s9
          go_wp2_with fail
          refine wh.mono ?_
          rintro e w11 ⟨rfl, k11⟩
          have s11 := s10.more k11
          have K11 := M10.keep.trans k11
          have hnew := n1 w11
          clear wh M10 s10 n1
          go_upto_region 27 with (go_at_call 9; refine hnew.mono ?_; rintro e w12 ⟨q', b', p', k', rfl, Mk⟩)
          have fm' : Hid (Form m) := fm
          have hbd' : Hid (∀ x ∈ m, x.lba + x.len ≤ 512 ∧ x.phys + x.len ≤ 1049088) := hbd
          clear hnew fm hbd k7 k8 k9 k10 k11
          have d1 := wrapI (x := (m.length : Int) - 1) (by omega) (by omega)
          go_wp2_with fail
          go_loopw [17] (fun v wx => ∃ i : Nat, i ≤ m.length ∧ v = .int .i64 ((i : Int) - 1) ∧ Mp w11 wx q' b' p' k' 512 C (bk (m.drop i))) (fun v _ => (intOf v + 1).toNat)
          case atStart => exact ⟨m.length, by omega, rfl, by rw [List.drop_length]; exact Mk⟩
          case round =>
            clear Mk
            obtain ⟨i, hi, rfl, Mk⟩ := hrel
            rcases i with _ | j
            · rw [List.drop_zero] at Mk
              rw [show ((0 : Nat) : Int) - 1 = -1 from rfl]
              have hkl := Mk.len
              have r1 := runs_any Mk
              clear d1
              go_wp2_with fail
              refine r1.mono ?_
              rintro e w13 ⟨rfl, t13, k13⟩
              have s13 := s11.more (Mk.keep.trans k13)
              have sm := same9 (t13.rs (by omega)) s13 (by omega)
              have HK := (K11.trans Mk.keep).trans k13
              have hE : Hid (sameL (bk m) m = false → farL m = true) := bk_end fm'
              clear r1 Mk
              cases hb : sameL (bk m) m with
              | true =>
                rw [hb] at sm
                clear t13 s13
                go_wp2_with fail
                refine sm.mono ?_
                rintro e w14 ⟨rfl, k14⟩
                go_wp2_with fail
                go_ret
                exact ⟨rfl, HK.trans k14⟩
              | false =>
                rw [hb] at sm
                have hfar := hE hb
                clear t13
                go_wp2_with fail
                refine sm.mono ?_
                rintro e w14 ⟨rfl, k14⟩
                have fa := far_any (s13.more k14) (by omega)
                rw [hfar] at fa
                clear sm s13
                go_wp2_with fail
                refine fa.mono ?_
                rintro e w15 ⟨rfl, e15⟩
                have e15 := e15.symm
                subst e15
                go_wp2_with fail
                go_ret
                exact ⟨rfl, HK.trans k14⟩
            · rw [show ((j + 1 : Nat) : Int) - 1 = (j : Int) by omega]
              obtain ⟨x, hx⟩ := get_rn (show j < m.length by omega)
              obtain ⟨xo, xc⟩ := hlim x (List.mem_of_getElem? hx)
              have hbx := bk_drop hx
              obtain ⟨g', eg, e0, e1, e2⟩ := (s11.more Mk.keep).at hx
              injection eg with eg; injection eg with eg; subst eg
              have Md : Mp w11 wr.drew q' b' p' k' 512 C (bk (m.drop (j + 1))) := Mk.more ((Keep.refl _ _).drew)
              obtain ⟨g'', eg, f0, f1, f2⟩ := s11.at hx
              injection eg with eg; injection eg with eg; subst eg
              have hS := fun (w' : World) (hk : Keep (Own3 b' p' k') wr.drew w') => And.intro (own_cell Md hk f0) (And.intro (own_cell Md hk f1) (own_cell Md hk f2))
              have dj : (j : Int) < (m.length : Int) := by omega
              have dj0 : ¬ (j : Int) < 0 := by omega
              have dw := wrapI (x := (j : Int) - 1) (by omega) (by omega)
              have hj' : Hid (j ≤ m.length) := by show j ≤ m.length; omega
              clear f0 f1 f2
              by_cases cm : x.phys ≤ 1048576
              · rw [if_pos cm] at hbx
                have hs := set_fits Md (r := x) xo.1 xo.2.1 xc xo.2.2 cm
                rw [← hbx] at hs
                have cmd : decide (x.phys ≤ 1048576) = true := decide_eq_true cm
                clear hbx hx Mk Md xo xc d1
                go_upto_region 30 with fail
                go_region_held3 (fun w' => w'.cell? ⟨G, j * 3, none⟩ = some (.int .i64 x.lba) ∧ w'.cell? ⟨G, j * 3 + 1, none⟩ = some (.int .i64 x.len) ∧ w'.cell? ⟨G, j * 3 + 2, none⟩ = some (.int .i64 x.phys)) (first | exact hS _ (Keep.refl _ _) | exact hS _ k8) ((go_at_call 10; refine hs.mono ?_; rintro e w13 ⟨rfl, M8, k8⟩))
                clear hS hs e0 e1 e2
                go_wp2_with fail
                go_roundw
                case rel => exact ⟨j, hj', rfl, M8⟩
                case measure => simp [intOf]
              · rw [if_neg cm] at hbx
                have cmd : decide (x.phys ≤ 1048576) = false := decide_eq_false cm
                rw [← hbx] at Mk
                clear hbx hx Md xo xc d1 hS
                go_upto_region 30 with fail
                go_quiet (fail)
                have M8 := Mk.more ((Keep.refl (fun _ => False) wr).drewN nq)
                generalize wr.drewN nq = w13 at M8 ⊢
                clear Mk e0 e1 e2
                go_wp2_with fail
                go_roundw
                case rel => exact ⟨j, hj', rfl, M8⟩
                case measure => simp [intOf]
theorem again_walk (W : World) (cap : Int) {a : Option Addr} {len c : Nat} (hA : Acts W a len c) {lba : Int} (hl : (Lit.int .i64 lba).wf = true) (n : Int) :
    Calls Try.prog 5 #[.int .i64 cap, .slice a len c, .int .i64 lba, .int .i64 n] W fun e w' => e = .returned (.bool true) ∧ Below W.heap.size W w' :=
  (again_any hA (int_fits hl)).mono (by rintro e w' ⟨h1, h2⟩; exact ⟨h1, h2.below (Nat.le_refl _) (fun _ e => e.elim)⟩)
end Tg
end Go.Proofs.Ytobljchpphcolaa
