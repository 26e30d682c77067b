/-
  The landed Valid of blocks, walked.
-/
import Derived.Test.YtkddonmddgfpnabCd
namespace Go.Proofs.Ytkddonmddgfpnab
open Go.ChangeShapes Go.WideShapes Go.ChangeAt Go.RowKit
namespace Tg
theorem ri_older {w0 w1 w : World} {g cap : Nat} {m : List Int} (h : Ri w1 w (some ⟨g, 0, none⟩) cap m) (k : Keep (fun _ => False) w0 w1) : Ri w0 w (some ⟨g, 0, none⟩) cap m := by
  refine ⟨⟨h.own.1, h.own.2.imp id ?_⟩, k.trans h.keep⟩
  rintro ⟨g, c, cur, e, hb, hh, h1, h2, h3, h4⟩
  exact ⟨g, c, cur, e, by have := k.size; omega, hh, h1, h2, h3, h4⟩
set_option maxRecDepth 100000 in
set_option maxHeartbeats 1000000 in
theorem valid_no {w : World} {a : Option Addr} {cap : Nat} {l : List Rn} (n pages : Int) (hR : Rz w a cap l) (hf : Fits l) (hv : vOk l n pages = false) :
    Calls Try.prog 9 #[.slice a l.length cap, .int .i64 n, .int .i64 pages] w fun e w' => e = .returned (.tuple #[.slice none 0 0, .int .i64 1]) ∧ Keep (fun _ => False) w w' := by
  have K0 := Keep.refl (fun _ => False) w
  have hw1 := fun w => within_any w n 1 64
  have hw2 := fun w => within_any w pages 1 32
  have hfo := formed_any hR hf
  by_cases hn : 1 ≤ n ∧ n ≤ 64
  · rw [decide_eq_true hn.1, decide_eq_true hn.2, Bool.true_and] at hw1
    by_cases hp : 1 ≤ pages ∧ pages ≤ 32
    · rw [decide_eq_true hp.1, decide_eq_true hp.2, Bool.true_and] at hw2
      cases hB : fmB l with
      | false =>
        rw [hB] at hfo
        obtain ⟨m, hm⟩ : ∃ m, m = l.length := ⟨_, rfl⟩
        rw [← hm] at hfo ⊢
        clear hB hp hv hn hm hf
        go_enter Try.func9, Try.ntmps9
        go_wp2_with fail
        refine (hw1 _).mono ?_
        rintro e wz ⟨rfl, e0⟩
        have e0 := e0.symm
        subst e0
        go_wp2_with fail
        refine (hw2 _).mono ?_
        rintro e wz ⟨rfl, e0⟩
        have e0 := e0.symm
        subst e0
        go_wp2_with fail
        refine hfo.mono ?_
        rintro e w2 ⟨rfl, K2⟩
        go_wp2_with fail
        go_ret2
        exact ⟨rfl, K2⟩
      | true =>
        rw [hB] at hfo
        have hnp : n * pages ≤ 64 * 32 := Int.mul_le_mul hn.2 hp.2 (by omega) (by omega)
        have hnp0 : 0 ≤ n * pages := Int.mul_nonneg (by omega) (by omega)
        have hon := fun {w'} (k : Keep (fun _ => False) w w') => onFlash_any (hR.more k) (fmB_in hB) (P := n * pages) ⟨hnp0, by omega⟩
        have hI : inP (n * pages) l = false := by
          rw [Bool.eq_false_iff]
          intro e
          rw [vOk_iff.2 ⟨hn, hp, hB, e⟩] at hv
          cases hv
        rw [hI] at hon
        have dnp0 := wrapI (x := n * pages) (by omega) (by omega)
        obtain ⟨P, hP⟩ : ∃ P, P = n * pages := ⟨_, rfl⟩
        rw [← hP] at hon
        have dnp : IntKind.i64.wrap (n * pages) = P := by rw [dnp0, hP]
        clear hnp hnp0 hP dnp0
        obtain ⟨m, hm⟩ : ∃ m, m = l.length := ⟨_, rfl⟩
        rw [← hm] at hfo hon ⊢
        clear hB hp hv hn hm hf hI
        go_enter Try.func9, Try.ntmps9
        go_wp2_with fail
        refine (hw1 _).mono ?_
        rintro e wz ⟨rfl, e0⟩
        have e0 := e0.symm
        subst e0
        go_wp2_with fail
        refine (hw2 _).mono ?_
        rintro e wz ⟨rfl, e0⟩
        have e0 := e0.symm
        subst e0
        go_wp2_with fail
        refine hfo.mono ?_
        rintro e w2 ⟨rfl, K2⟩
        have hon := hon K2
        go_wp2_with fail
        refine hon.mono ?_
        rintro e w3 ⟨rfl, K3⟩
        have K4 := K2.trans K3
        clear hon hfo hw1 hw2 K3
        go_wp2_with fail
        go_ret2
        exact ⟨rfl, K4⟩
    · rw [show (decide (1 ≤ pages) && decide (pages ≤ 32)) = false by simp; omega] at hw2
      obtain ⟨m, hm⟩ : ∃ m, m = l.length := ⟨_, rfl⟩
      rw [← hm] at ⊢
      clear hp hv hn hm hf hfo
      go_enter Try.func9, Try.ntmps9
      go_wp2_with fail
      refine (hw1 _).mono ?_
      rintro e wz ⟨rfl, e0⟩
      have e0 := e0.symm
      subst e0
      go_wp2_with fail
      refine (hw2 _).mono ?_
      rintro e wz ⟨rfl, e0⟩
      have e0 := e0.symm
      subst e0
      go_wp2_with fail
      go_ret2
      exact ⟨rfl, K0⟩
  · rw [show (decide (1 ≤ n) && decide (n ≤ 64)) = false by simp; omega] at hw1
    obtain ⟨m, hm⟩ : ∃ m, m = l.length := ⟨_, rfl⟩
    rw [← hm] at ⊢
    clear hv hn hm hf hfo
    go_enter Try.func9, Try.ntmps9
    go_wp2_with fail
    refine (hw1 _).mono ?_
    rintro e wz ⟨rfl, e0⟩
    have e0 := e0.symm
    subst e0
    go_wp2_with fail
    go_ret2
    exact ⟨rfl, K0⟩
set_option maxRecDepth 100000 in
set_option maxHeartbeats 1000000 in
theorem valid_yes {w : World} {a : Option Addr} {cap : Nat} {l : List Rn} (n : Nat) (pages : Int) (hR : Rz w a cap l) (hf : Fits l) (hv : vOk l n pages = true) :
    Calls Try.prog 9 #[.slice a l.length cap, .int .i64 (n : Int), .int .i64 pages] w fun e w' => ∃ g, e = .returned (.tuple #[.slice (some ⟨g, 0, none⟩) n n, .int .i64 0]) ∧ Ri w w' (some ⟨g, 0, none⟩) n (valL pages l n) := by
  obtain ⟨hn, hp, hB, hI⟩ := vOk_iff.1 hv
  have hnp : (n : Int) * pages ≤ 64 * 32 := Int.mul_le_mul hn.2 hp.2 (by omega) (by omega)
  have hnp0 : 0 ≤ (n : Int) * pages := Int.mul_nonneg (by omega) (by omega)
  have hin := inP_iff.1 hI
  have hF : Ft13 l := Ft13.of (by rw [← fm_fit (fun x hx => by have h1 := hin x hx; have h2 := inL_iff.1 (fmB_in hB x hx); omega)]; exact hB)
  have hw1 := fun w => within_any w (n : Int) 1 64
  have hw2 := fun w => within_any w pages 1 32
  have hfo := formed_any hR hf
  rw [decide_eq_true hn.1, decide_eq_true hn.2, Bool.true_and] at hw1
  rw [decide_eq_true hp.1, decide_eq_true hp.2, Bool.true_and] at hw2
  rw [hB] at hfo
  have hon := fun {w'} (k : Keep (fun _ => False) w w') => onFlash_any (hR.more k) (fmB_in hB) (P := (n : Int) * pages) ⟨hnp0, by omega⟩
  rw [hI] at hon
  have dnp0 := wrapI (x := (n : Int) * pages) (by omega) (by omega)
  have hcut := fun {w'} (k : Keep (fun _ => False) w w') => cut_any (hR.more k) hF hp
  have hsl : (splL pages l).length ≤ 512 := splL_512 hF
  have hmk0 := fun w => make_ints n (by omega) w
  have hS : Hid (∀ y ∈ splL pages l, (0 ≤ y.phys ∧ y.phys + y.len ≤ (n : Int) * pages) ∧ 1 ≤ y.len ∧ y.len ≤ 512) := fun y hy => by
    have h1 := splL_in hF hy
    obtain ⟨x, hx, h2, h3, -, h5, h6⟩ := spl_mem (by omega) hy
    have h7 := hin x hx
    have h8 := hF.bd hx
    omega
  have hend : Hid (sumV pages (splL pages l) n = valL pages l n) := sumV_end (by omega) l n
  obtain ⟨P, hNP⟩ : ∃ P, (n : Int) * pages = P := ⟨_, rfl⟩
  have dnp : IntKind.i64.wrap ((n : Int) * pages) = P := by rw [dnp0, hNP]
  rw [hNP] at hon hnp hnp0 hS
  clear dnp0
  obtain ⟨S, hSe⟩ : ∃ S, S = splL pages l := ⟨_, rfl⟩
  simp only [← hSe] at hcut
  rw [← hSe] at hsl hS hend
  obtain ⟨m, hm⟩ : ∃ m, m = l.length := ⟨_, rfl⟩
  rw [← hm] at hfo hon ⊢
  simp only [← hm] at hcut
  obtain ⟨q, hq⟩ : ∃ q, q = S.length := ⟨_, rfl⟩
  simp only [← hq] at hcut
  rw [← hq] at hsl
  have hq' : Hid (q = S.length) := hq
  have hNP' : Hid ((n : Int) * pages = P) := hNP
  have hp0 : ¬ pages = 0 := by omega
  have hp1 : Hid (1 ≤ pages ∧ pages ≤ 32) := hp
  have hn1 : Hid (1 ≤ (n : Int) ∧ (n : Int) ≤ 64) := hn
  clear hB hv hm hf hI hin hF hSe hq hNP hp hn hnp0 hR
  go_enter Try.func9, Try.ntmps9
  go_wp2_with fail
  refine (hw1 _).mono ?_
  rintro e wz ⟨rfl, e0⟩
  have e0 := e0.symm
  subst e0
  go_wp2_with fail
  refine (hw2 _).mono ?_
  rintro e wz ⟨rfl, e0⟩
  have e0 := e0.symm
  subst e0
  go_wp2_with fail
  refine hfo.mono ?_
  rintro e w2 ⟨rfl, K2⟩
  have hon := hon K2
  go_wp2_with fail
  refine hon.mono ?_
  rintro e w3 ⟨rfl, K3⟩
  have K4 := K2.trans K3
  have hmk := hmk0 w3
  clear hmk0
  have R0 : Ri w3 (w3.alloc (.cells (madeCells #[.int .i64 0] n) 3)) (some ⟨w3.heap.size, 0, none⟩) n (sumV pages (S.take 0) n) := by
    rw [List.take_zero, sumV_nil]
    exact ri_made w3 n (by have := (show 1 ≤ (n : Int) ∧ (n : Int) ≤ 64 from hn1).2; omega)
  have hcut := hcut (K4.trans R0.keep)
  generalize w3.alloc (.cells (madeCells #[.int .i64 0] n) 3) = w4 at hmk R0 hcut
  generalize hG : w3.heap.size = gv at hmk R0
  clear hon hfo hw1 hw2 K3 K2 dnp
  go_wp2_with fail
  clear hmk
  refine hcut.mono ?_
  rintro e w5 ⟨a5, c5, rfl, R5⟩
  clear hcut
  have R1 := R0.more R5.keep
  have Z5 := R5.rs.rz
  have hc2 := Z5.1
  rw [← show q = S.length from hq'] at hc2
  have hc3 := Z5.2.1
  have hblk : ∀ ad : Addr, a5 = some ad → w4.heap.size ≤ ad.block := fun ad e => by
    rcases R5.own.2 with ⟨e', -⟩ | ⟨g, c, cur, e', -⟩
    · injection e' with e'; rw [e] at e'; cases e'
    · injection e' with e'
      rw [e] at e'
      injection e' with e'
      subst e'
      exact (R5.block e).1
  have hgv := (R0.block rfl).2
  have hne : Hid (∀ ad : Addr, a5 = some ad → ad.block ≠ gv) := fun ad e => by have := hblk ad e; omega
  have hKs : Hid (∀ wx, Ri w3 wx (some ⟨gv, 0, none⟩) n (valL pages l n) → Ri w wx (some ⟨gv, 0, none⟩) n (valL pages l n)) := fun wx h => ri_older h K4
  clear hblk R0 R5 K4 hgv
  go_wp2_with fail
  go_loopw [38] (fun v wx => ∃ i : Nat, i ≤ q ∧ v = .int .i64 (i : Int) ∧ Ri w3 wx (some ⟨gv, 0, none⟩) n (sumV pages (S.take i) n) ∧ Rz wx a5 c5 S) (fun v _ => q - (intOf v).toNat)
  case atStart => exact ⟨0, by omega, rfl, R1, Z5⟩
  case round =>
    clear R1 Z5
    obtain ⟨i, hi, rfl, R, Z⟩ := hrel
    by_cases hlt : i < q
    · obtain ⟨x, hx⟩ := get_rn (m := S) (i := i) (by rw [← show q = S.length from hq']; exact hlt)
      have hb := (show ∀ y ∈ S, (0 ≤ y.phys ∧ y.phys + y.len ≤ P) ∧ 1 ≤ y.len ∧ y.len ≤ 512 from hS) x (List.mem_of_getElem? hx)
      obtain ⟨g, o, ea, x0, x1, x2⟩ := Z.at hx
      have di : (i : Int) < (q : Int) := by omega
      have dw := wrapI (x := (i : Int) + 1) (by omega) (by omega)
      have hlt' : Hid (i < q) := hlt
      have hpp := show 1 ≤ pages ∧ pages ≤ 32 from hp1
      have hnn := show 1 ≤ (n : Int) ∧ (n : Int) ≤ 64 from hn1
      have hq0 : 0 ≤ x.phys / pages := Int.ediv_nonneg (by omega) (by omega)
      have hqn : x.phys / pages < (n : Int) := Int.ediv_lt_of_lt_mul (by omega) (by rw [show (n : Int) * pages = P from hNP']; omega)
      obtain ⟨j, hj⟩ : ∃ j : Nat, x.phys / pages = (j : Int) := ⟨(x.phys / pages).toNat, by omega⟩
      have hjn : j < n := by omega
      have f2 : x.phys.tdiv pages = (j : Int) := by rw [Int.tdiv_eq_ediv_of_nonneg (by omega)]; exact hj
      have f3 : IntKind.i64.wrap (j : Int) = (j : Int) := wrapI (by omega) (by omega)
      have djn : (j : Int) < (n : Int) := by omega
      have hsb := sumB_nn (pages := pages) (b := (j : Int)) (l := S.take i) (fun y hy => ((show ∀ y ∈ S, (0 ≤ y.phys ∧ y.phys + y.len ≤ P) ∧ 1 ≤ y.len ∧ y.len ≤ 512 from hS) y (List.mem_of_mem_take hy)).2)
      have hti : (S.take i).length ≤ 512 := Nat.le_trans (List.length_take_le _ _) (by omega)
      have hset := sumV_set (n := n) hx hj hjn
      have hat := sumV_at (pages := pages) (l := S.take i) hjn
      obtain ⟨V, hV⟩ : ∃ V, V = sumB pages (j : Int) (S.take i) := ⟨_, rfl⟩
      rw [← hV] at hsb hset hat
      have f4 : IntKind.i64.wrap (V + x.len) = V + x.len := wrapI (by omega) (by omega)
      have KA : Keep (fun _ => False) wr (wr.alloc (.cells #[.int .i64 x.lba, .int .i64 x.len, .int .i64 x.phys] 35)) := (Keep.refl _ _).alloc _
      have LA : Lrn (wr.alloc (.cells #[.int .i64 x.lba, .int .i64 x.len, .int .i64 x.phys] 35)) wr.heap.size x := Lrn.new wr x
      have hgg : gv < wr.heap.size := (R.block rfl).2
      have R := R.more KA
      have Z := Z.more KA
      subst ea
      clear hlt hx hb hq0 hqn hj hsb hti hV hpp hnn KA
      go_upto_region 7 with fail
      generalize wr.alloc (.cells #[.int .i64 x.lba, .int .i64 x.len, .int .i64 x.phys] 35) = w6 at LA R Z ⊢
      generalize hGG : wr.heap.size = G at LA hgg ⊢
      have l1 : w6.cell? ⟨G, 1, none⟩ = some (.int .i64 x.len) := (LA 1 (by omega)).1
      have l2 : w6.cell? ⟨G, 2, none⟩ = some (.int .i64 x.phys) := (LA 2 (by omega)).1
      clear x0 x1 x2 LA hGG
      obtain ⟨g2, eg, cj⟩ := R.is.at (i := j) (by rw [sumV_len]; exact hjn)
      injection eg with eg; injection eg with eg; subst eg
      rw [List.getD_eq_getElem?_getD, hat, Option.getD_some] at cj
      have zj := R.fz j
      have R2 := (R.more ((Keep.refl (fun _ => False) w6).drew)).set j (V + x.len)
      rw [← hset] at R2
      have Z2 : Rz (w6.drew.setCell ⟨gv, j, none⟩ (.int .i64 (V + x.len))) (some ⟨g, o, none⟩) c5 S := (Z.more ((Keep.refl (fun _ => False) w6).drew)).keep ((Keep.refl (fun b => b = gv) w6.drew).setCell (p := ⟨gv, j, none⟩) (Or.inl rfl) _) (fun g' o' e _ e2 => (show ∀ ad : Addr, some (⟨g, o, none⟩ : Addr) = some ad → ad.block ≠ gv from hne) ⟨g', o', none⟩ e e2)
      clear hset hat R Z
      go_region
      go_wp2_with fail
      go_roundw
      case rel => exact ⟨i + 1, hlt', by go_num, R2, Z2⟩
      case measure => have : i < q := hlt'; simp [intOf]; omega
    · have di : ¬ (i : Int) < (q : Int) := by omega
      rw [List.take_of_length_le (by rw [← show q = S.length from hq']; omega), show sumV pages S n = _ from hend] at R
      have R' := (show ∀ wx, _ → _ from hKs) _ R
      clear hlt R
      go_wp2_with fail
      go_ret2
      exact ⟨gv, rfl, R'⟩
theorem valid_ok : ValidOk := fun {w a cap l} n pages hR hf _ _ => by
  cases hv : vOk l n pages with
  | true =>
    obtain ⟨k, rfl⟩ : ∃ k : Nat, n = (k : Int) := ⟨n.toNat, by have := (vOk_iff.1 hv).1; omega⟩
    refine (valid_yes k pages hR hf hv).mono ?_
    rintro e w' ⟨g, rfl, R⟩
    rw [if_pos rfl, Int.toNat_natCast]
    exact ⟨⟨_, _, rfl, R.is.iz⟩, R.keep⟩
  | false =>
    refine (valid_no n pages hR hf hv).mono ?_
    rintro e w' ⟨rfl, K⟩
    rw [if_neg (by simp)]
    exact ⟨⟨none, 0, rfl⟩, K⟩
end Tg
end Go.Proofs.Ytkddonmddgfpnab
