/-
  WindowRewrite's body, given what the program's calls answer.
-/
import Derived.Test.YtojkiambkgkecaaWm
namespace Go.Proofs.Ytojkiambkgkecaa
open Go.ChangeShapes Go.WideShapes Go.ChangeAt Go.RowKit
namespace Tg
theorem fset_yes {B : Nat → Prop} {wa : World} {q : Nat} {t : List Int} (h : Fm B wa q 512 512 t) {L M : Nat} {phys : Int} (hM : 1 ≤ M) (hr : L + M ≤ 512) (p1 : 0 ≤ phys) (p2 : phys ≤ 1048576) :
    Calls Try.prog 15 #[.pointer (some ⟨q, 0, none⟩), .int .i64 (L : Int), .int .i64 (M : Int), .int .i64 phys] wa fun e w' => e = .returned (.int .i64 0) ∧ Fm B w' q 512 512 (putN t L phys M) ∧ Keep (fun x => x = q) wa w' :=
  (fset h hM hr p1 p2).mono (by
    rintro e w' (⟨_, h1, h2, h3⟩ | ⟨h1, _⟩)
    · exact ⟨h1, h2, h3⟩
    · have := refR_len (putN t L phys M) 512
      omega)
set_option maxRecDepth 100000 in
set_option maxHeartbeats 1000000 in
theorem rew_no (HM : ManyOk) (HR : RichestOk) (HH : HolesOk) {w : World} {a : Option Addr} {k c : Nat} {W P : Int} (h : 100 < k ∨ W < 1 ∨ 512 < W ∨ P < 0 ∨ 1048576 < P) :
    Calls Try.prog 6 #[.slice a k c, .int .i64 W, .int .i64 P] w fun e w' => e = .returned (.bool true) ∧ Keep (fun _ => False) w w' := by
  have haw := awake_any HM HR HH w
  go_enter Try.func6, Try.ntmps6
  go_wp2_with fail
  refine haw.mono ?_
  rintro e w0 ⟨rfl, K0⟩
  clear haw
  by_cases h1 : 100 < k
  · have d1 : (100 : Int) < (k : Int) := by omega
    clear h
    go_wp2_with fail
    go_ret
    exact ⟨rfl, K0⟩
  · have d1 : ¬ (100 : Int) < (k : Int) := by omega
    by_cases h2 : W < 1
    · clear h
      go_wp2_with fail
      go_ret
      exact ⟨rfl, K0⟩
    · by_cases h3 : 512 < W
      · clear h
        go_wp2_with fail
        go_ret
        exact ⟨rfl, K0⟩
      · by_cases h4 : P < 0
        · clear h
          go_wp2_with fail
          go_ret
          exact ⟨rfl, K0⟩
        · have h5 : 1048576 < P := by omega
          clear h
          go_wp2_with fail
          go_ret
          exact ⟨rfl, K0⟩
set_option maxRecDepth 100000 in
set_option maxHeartbeats 2000000 in
theorem rew_yes (HM : ManyOk) (HR : RichestOk) (HH : HolesOk) {w : World} {a : Option Addr} {c : Nat} {p : List Rn} (hP : Rz w a c p) (hfp : Fits p) {W : Nat} {P : Int} (hp : p.length ≤ 100) (h1 : 1 ≤ W) (h2 : W ≤ 512) (hP1 : 0 ≤ P) (hP2 : P ≤ 1048576) :
    Calls Try.prog 6 #[.slice a p.length c, .int .i64 (W : Int), .int .i64 P] w fun e w' => e = .returned (.bool true) ∧ Keep (fun _ => False) w w' := by
  have haw := awake_any HM HR HH w
  have hc1 := hP.1
  have hc2 := hP.2.1
  have d1 : ¬ (100 : Int) < (p.length : Int) := by omega
  have d2 : ¬ (W : Int) < 1 := by omega
  have d3 : ¬ (512 : Int) < (W : Int) := by omega
  have d4 : ¬ P < 0 := by omega
  have d5 : ¬ 1048576 < P := by omega
  have hok := mOk_fold p (W := (W : Int)) (by omega) (by omega)
  have hWI : I64 (W : Int) := ⟨by omega, by omega⟩
  have h5I : I64 512 := ⟨by omega, by omega⟩
  have hF := ft_fold p
  have hll := foldR_len p
  have hfl := foldR_fits p
  go_enter Try.func6, Try.ntmps6
  go_wp2_with fail
  refine haw.mono ?_
  rintro e w0 ⟨rfl, K0⟩
  have hfo := fold9 (hP.more K0) hfp
  clear haw
  go_wp2_with fail
  refine hfo.mono ?_
  rintro e w1 ⟨a1, c1, rfl, R1⟩
  have Z1 := R1.rs.rz
  clear hfo hP
  generalize foldR p = l at *
  have K1 := K0.trans R1.keep
  clear R1 K0
  have hZc := Z1.1
  have hZc2 := Z1.2.1
  have hrc := HR.yes Z1 hfl h5I hWI hok
  obtain ⟨m, hm⟩ : ∃ m, m = l.length := ⟨_, rfl⟩
  have hm' : Hid (m = l.length) := hm
  rw [← hm] at hrc hll hZc ⊢
  clear hm
  rw [show (512 : Int).toNat = 512 from rfl, Int.toNat_natCast] at hrc
  have hmul := ric_mul h1 h2 l
  have hrlt := ric_lt h1 h2 l
  have hbd := ricN_bd (C := 512) h1 hmul
  obtain ⟨y, hy⟩ : ∃ y : Nat, ricN 512 W (ric 512 W l * W) = (y : Int) := ⟨(ricN 512 W (ric 512 W l * W)).toNat, by omega⟩
  obtain ⟨A, hA⟩ : ∃ A : Nat, ric 512 W l * W = A := ⟨_, rfl⟩
  have hsum := rewrite_sum hF h1 h2 hP1 hA (by rw [hA] at hy; exact hy)
  have hnw := nWin_le h1 h2
  have hmc := mcnt_le W l (ric 512 W l)
  rw [← man_get hrlt] at hmc
  have hdiv : Hid (((A : Int)).tdiv (W : Int) = ((ric 512 W l : Nat) : Int)) := by
    show _ = _
    rw [Int.tdiv_eq_ediv_of_nonneg (by omega), ← Int.natCast_ediv, ← hA, Nat.mul_div_cancel _ (by omega)]
  rw [hA] at hrc hy hmul hbd
  rw [hy] at hrc hbd
  have hmr : Hid (∀ M : List Rn, (manL 512 W M).length = nWin 512 W) := fun M => manL_len 512 W M
  clear hA hy
  generalize (manL 512 W l).getD (ric 512 W l) 0 = r at *
  generalize ric 512 W l = j at *
  go_wp2_with fail
  refine hrc.mono ?_
  rintro e w2 ⟨rfl, K2⟩
  have hnf := newF_any (B := fun x => w2.heap.size ≤ x) (w := w2) (fun x hx => hx) (C := 512) (N := 512) (by omega) (by omega) (by omega) (by omega)
  have Z2 := Z1.more K2
  have K12 := K1.trans K2
  clear hrc K2 K1 Z1 HR HH
  go_wp2_with fail
  refine hnf.mono ?_
  rintro e w3 ⟨q, rfl, F3, K3⟩
  have F3 : Fm (fun x => w2.heap.size ≤ x) w3 q 512 512 (tabL (l.take 0)) := F3
  have hq : w2.heap.size ≤ q := F3.bq
  clear hnf
  have hZ2 : Hid (Rz w2 a1 c1 l) := Z2
  have hnx : Hid (∀ {wa wb : World}, Keep (fun _ => False) w2 wa → Keep (fun x => x = q) wa wb → Keep (fun _ => False) w2 wb) := fun k1 k2 => k1.next k2 (fun x hx e => by omega)
  clear Z2
  go_wp2_with fail
  go_loopw [14] (fun iv wx => ∃ i : Nat, i ≤ m ∧ iv = .int .i64 (i : Int) ∧ Fm (fun x => w2.heap.size ≤ x) wx q 512 512 (tabL (l.take i)) ∧ Keep (fun _ => False) w2 wx ∧ Hid (∀ x ∈ l.take i, x.phys ≤ 1048576)) (fun iv _ => m - (intOf iv).toNat)
  case atStart => exact ⟨0, by omega, rfl, F3, K3, fun x hx => by simp at hx⟩
  case round =>
    clear F3 K3
    obtain ⟨i, hi, rfl, F, K, hph⟩ := hrel
    by_cases hlt : i < m
    · obtain ⟨x, hx⟩ : ∃ x, l[i]? = some x := ⟨_, List.getElem?_eq_getElem (by rw [← show m = _ from hm']; exact hlt)⟩
      have hbx := hF.bd (List.mem_of_getElem? hx)
      obtain ⟨g, o, rfl, u0, u1, u2⟩ := ((show Rz w2 a1 c1 l from hZ2).more K).at hx
      have di : (i : Int) < (m : Int) := by omega
      have dwi := wrapI (x := (i : Int) + 1) (by omega) (by omega)
      have hlt' : Hid (i < m) := hlt
      obtain ⟨L, hL⟩ : ∃ L : Nat, x.lba = (L : Int) := ⟨x.lba.toNat, by omega⟩
      obtain ⟨M, hM⟩ : ∃ M : Nat, x.len = (M : Int) := ⟨x.len.toNat, by omega⟩
      have Kd := (Keep.refl (fun _ => False) wr).drew
      have hgq : g < w2.heap.size := by
        obtain ⟨g', o', e', v0, -, -⟩ := (show Rz w2 _ c1 l from hZ2).at hx
        injection e' with e'
        injection e' with e1 e2
        subst e1
        exact World.block_lt_of_cell? w2 _ v0
      have hgw : g < wr.heap.size := World.block_lt_of_cell? wr _ u0
      by_cases hxp : x.phys ≤ 1048576
      · have hfs := fset_yes (F.more Kd) (L := L) (M := M) (phys := x.phys) (by omega) (by omega) (by omega) hxp
        have hnt : putN (tabL (l.take i)) L x.phys M = tabL (l.take (i + 1)) := by
          rw [take_snoc hx, tabL_snoc]
          unfold putR
          rw [hL, hM, Int.toNat_natCast, Int.toNat_natCast]
        rw [hnt] at hfs
        have hph2 : Hid (∀ z ∈ l.take (i + 1), z.phys ≤ 1048576) := fun z hz => by
          rw [take_snoc hx] at hz
          rcases List.mem_append.1 hz with hz | hz
          · exact (show ∀ x ∈ l.take i, x.phys ≤ 1048576 from hph) z hz
          · simp at hz; subst hz; exact hxp
        rw [hL] at u0
        rw [hM] at u1
        have hK : Hid (Keep (fun _ => False) w2 wr) := K
        have hcl : Hid (∀ wb, Keep (fun x => x = q) wr.drew wb → wb.cell? ⟨g, o + i * 3, none⟩ = some (.int .i64 (L : Int)) ∧ wb.cell? ⟨g, o + i * 3 + 1, none⟩ = some (.int .i64 (M : Int)) ∧ wb.cell? ⟨g, o + i * 3 + 2, none⟩ = some (.int .i64 x.phys)) := fun wb k => by
          have eb : wb.heap[g]? = wr.heap[g]? := k.block g hgw (fun e => by omega)
          exact ⟨by rw [← u0]; exact World.cell?_of_block (w := wr) (a := ⟨g, o + i * 3, none⟩) eb, by rw [← u1]; exact World.cell?_of_block (w := wr) (a := ⟨g, o + i * 3 + 1, none⟩) eb, by rw [← u2]; exact World.cell?_of_block (w := wr) (a := ⟨g, o + i * 3 + 2, none⟩) eb⟩
        clear hnt hlt hx hbx hxp hL hM F K hph
        generalize x.phys = x2 at *
        go_wp2_with fail
        go_region_held3 (fun w' => w'.cell? ⟨g, o + i * 3, none⟩ = some (.int .i64 (L : Int)) ∧ w'.cell? ⟨g, o + i * 3 + 1, none⟩ = some (.int .i64 (M : Int)) ∧ w'.cell? ⟨g, o + i * 3 + 2, none⟩ = some (.int .i64 x2)) (first | exact ⟨u0, u1, u2⟩ | exact (show ∀ wb, Keep (fun x => x = q) wr.drew wb → _ from hcl) _ K5) ((go_at_call 15; refine hfs.mono ?_; rintro e w5 ⟨rfl, F5, K5⟩))
        have K6 := (show ∀ {wa wb : World}, Keep (fun _ => False) w2 wa → Keep (fun x => x = q) wa wb → Keep (fun _ => False) w2 wb from hnx) (show Keep (fun _ => False) w2 wr.drew from (show Keep (fun _ => False) w2 wr from hK).drew) K5
        go_wp2_with fail
        go_roundw
        case rel => exact ⟨i + 1, hlt', by go_num, F5, K6, hph2⟩
        case measure => have : i < m := hlt'; simp [intOf]; omega
      · have hfs := fset_no (F.more Kd) (lba := x.lba) (n := x.len) (phys := x.phys) (by omega) (Or.inr (Or.inr (by omega)))
        have KK : Hid (Keep (fun _ => False) w wr.drew) := (K12.trans K).drew
        have dp : decide (1048576 < x.phys) = true := decide_eq_true (by omega)
        have u2d : wr.drew.cell? ⟨g, o + i * 3 + 2, none⟩ = some (.int .i64 x.phys) := u2
        clear hlt hx hbx hL hM F K hph Kd K12
        generalize x.phys = x2 at *
        generalize x.lba = x0 at *
        generalize x.len = x1 at *
        go_wp2_with fail
        go_region_held3 (fun w' => w'.cell? ⟨g, o + i * 3, none⟩ = some (.int .i64 x0) ∧ w'.cell? ⟨g, o + i * 3 + 1, none⟩ = some (.int .i64 x1) ∧ w'.cell? ⟨g, o + i * 3 + 2, none⟩ = some (.int .i64 x2)) (first | exact ⟨u0, u1, u2⟩ | (subst e5; exact ⟨u0, u1, u2⟩)) ((go_at_call 15; refine hfs.mono ?_; rintro e w5 ⟨rfl, e5⟩))
        subst e5
        go_wp2_with fail
        go_ret
        exact ⟨by first | rfl | (rw [dp]), KK⟩
    · have di : ¬ (i : Int) < (m : Int) := by omega
      have hph : ∀ x ∈ l, x.phys ≤ 1048576 := by
        have := (show ∀ x ∈ l.take i, x.phys ≤ 1048576 from hph)
        rwa [List.take_of_length_le (by rw [← show m = _ from hm']; omega)] at this
      rw [List.take_of_length_le (by rw [← show m = _ from hm']; omega)] at F
      have hE : Ent (tabL l) := ent_foldl l blank_len blank_ent (fun x hx => ⟨hF.bd hx, hph x hx⟩)
      have hE2 : Ent (putN (tabL l) A P y) := ent_put hE (by rw [tabL_len]; omega) (by omega) hP2
      have ht2 : (putN (tabL l) A P y).length = 512 := by rw [putN_len, tabL_len]
      have hfs := fset_yes F (L := A) (M := y) (phys := P) (by omega) (by omega) hP1 hP2
      have hmo2 := mOk_refR ht2 hE2 (W := (W : Int)) (by omega) (by omega)
      have hfi2 := fits_refR ht2 hE2
      have hcnt := refR_len (putN (tabL l) A P y) 512
      generalize putN (tabL l) A P y = T at *
      have hK : Hid (Keep (fun _ => False) w2 wr) := K
      rw [← show m = l.length from hm'] at hsum hmc
      clear hph hE hE2 ht2 F K hlt hi hF
      go_wp2_with fail
      refine hfs.mono ?_
      rintro e w5 ⟨rfl, F5, K5⟩
      have K25 := (show ∀ {wa wb : World}, Keep (fun _ => False) w2 wa → Keep (fun x => x = q) wa wb → Keep (fun _ => False) w2 wb from hnx) hK K5
      have hru := fruns F5
      clear hfs K5
      go_wp2_with fail
      refine hru.mono ?_
      rintro e w6 ⟨a6, c6, rfl, R6⟩
      have hmn := HM.yes R6.rs.rz hfi2 h5I hWI hmo2
      rw [show (512 : Int).toNat = 512 from rfl, Int.toNat_natCast] at hmn
      have F6 := F5.more R6.keep
      have K26 := K25.trans R6.keep
      clear hru R6 F5 K25 hmo2 hfi2
      have hMl := (show ∀ M : List Rn, (manL 512 W M).length = nWin 512 W from hmr) (refR T 512)
      generalize hMv : manL 512 W (refR T 512) = v at *
      generalize hcn : (refR T 512).length = cn at *
      generalize nWin 512 W = N at *
      go_wp2_with fail
      refine hmn.mono ?_
      rintro e w7 ⟨⟨a7, c7, rfl, I7⟩, K7⟩
      have F7 := F6.more K7
      have hco := fun {wx : World} (k : Keep (fun _ => False) w7 wx) => fcount (F7.more k)
      rw [hcn] at hco
      have KZ : Hid (Keep (fun _ => False) w w7) := K12.trans (K26.trans K7)
      have hv1 : v[j]? = some 1 := by
        rw [List.getElem?_eq_getElem (by omega)]
        have := hsum.2
        rw [List.getD_eq_getElem?_getD, List.getElem?_eq_getElem (by omega)] at this
        exact congrArg some this
      obtain ⟨g7, o7, rfl, z7⟩ := I7.at hv1
      have hI7c : N ≤ c7 := by rw [← hMl]; exact I7.1
      have hI7d := I7.2.1
      clear hmn F6 F7 K26 K7 hMv hcn K12 hv1 I7
      obtain ⟨s1, -⟩ := hsum
      have dj : (j : Int) < (N : Int) := by omega
      have dtd : ((A : Int)).tdiv (W : Int) = (j : Int) := hdiv
      have dwj : IntKind.i64.wrap (j : Int) = (j : Int) := wrapI (by omega) (by omega)
      have dW0 : ¬ (W : Int) = 0 := by omega
      have dm1 := wrapI (x := (m : Int) - r) (by omega) (by omega)
      have dm2 := wrapI (x := (m : Int) - r + 3) (by omega) (by omega)
      have s1d : decide ((cn : Int) ≤ (m : Int) - r + 3) = true := decide_eq_true s1
      have hc7 := hco (Keep.refl _ _)
      by_cases hr4 : r < 4
      · go_wp2_with fail
        refine hc7.mono ?_
        rintro e w8 ⟨rfl, K8⟩
        have z8 := K8.cell z7
        have KY : Hid (Keep (fun _ => False) w w8) := (show Keep (fun _ => False) w w7 from KZ).trans K8
        clear hc7 hco z7 K8
        go_wp2_with fail
        go_ret
        exact ⟨rfl, KY⟩
      · have hcm : (cn : Int) < (m : Int) := by omega
        go_wp2_with fail
        refine hc7.mono ?_
        rintro e w8 ⟨rfl, K8⟩
        have z8 := K8.cell z7
        have hc8 := hco K8
        clear hc7 hco
        go_wp2_with fail
        refine hc8.mono ?_
        rintro e w9 ⟨rfl, K9⟩
        have KY : Hid (Keep (fun _ => False) w w9) := ((show Keep (fun _ => False) w w7 from KZ).trans K8).trans K9
        clear hc8 z7 K8 K9
        go_wp2_with fail
        go_ret
        exact ⟨rfl, KY⟩
theorem rew_law (HM : ManyOk) (HR : RichestOk) (HH : HolesOk) {Wd : World} {a : Option Addr} {n d : Nat} (hp : Rows3 Wd a n d) {W P : Int} :
    Calls Try.prog 6 #[.slice a n d, .int .i64 W, .int .i64 P] Wd fun e w' => e = .returned (.bool true) ∧ Below Wd.heap.size Wd w' := by
  obtain ⟨p, rfl, h1, h2⟩ := hp
  by_cases h : 100 < p.length ∨ W < 1 ∨ 512 < W ∨ P < 0 ∨ 1048576 < P
  · exact (rew_no HM HR HH h).mono fun _ _ ⟨h1, h2⟩ => ⟨h1, h2.belowB (Nat.le_refl _) (fun _ e => e.elim)⟩
  · obtain ⟨Wn, rfl⟩ : ∃ Wn : Nat, W = (Wn : Int) := ⟨W.toNat, by omega⟩
    exact (rew_yes HM HR HH h1 h2 (by omega) (by omega) (by omega) (by omega) (by omega)).mono fun _ _ ⟨h1, h2⟩ => ⟨h1, h2.belowB (Nat.le_refl _) (fun _ e => e.elim)⟩
end Tg
end Go.Proofs.Ytojkiambkgkecaa
