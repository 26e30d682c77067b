/-
  The landed Split and Moves of blocks, walked.
-/
import Derived.Test.YtkddonmddgfpnabCc
import Derived.Test.YtkddonmddgfpnabBi
namespace Go.Proofs.Ytkddonmddgfpnab
open Go.ChangeShapes Go.WideShapes Go.ChangeAt Go.RowKit
namespace Tg
/-- What Split answers (a letter to the walk). -/
def SplQ (l : List Rn) (pages : Int) (w : World) (e : Ending) (w' : World) : Prop := (sOk l pages = true ∧ ∃ a' c', e = .returned (.tuple #[.slice a' (splL pages l).length c', .int .i64 0]) ∧ Rr w w' a' c' (splL pages l)) ∨ (sOk l pages = false ∧ e = .returned (.tuple #[.slice none 0 0, .int .i64 1]) ∧ Keep (fun _ => False) w w')
set_option maxRecDepth 100000 in
set_option maxHeartbeats 1000000 in
theorem split_any {w : World} {a : Option Addr} {cap : Nat} {l : List Rn} (pages : Int) (hR : Rz w a cap l) (hf : Fits l) :
    Calls Try.prog 19 #[.slice a l.length cap, .int .i64 pages] w fun e w' => SplQ l pages w e w' := by
  have hlc := hR.1
  have hlc2 := hR.2.1
  have K0 := Keep.refl (fun _ => False) w
  by_cases hp : 1 ≤ pages ∧ pages ≤ 32
  · have hw : Calls Try.prog 21 #[.int .i64 pages, .int .i64 1, .int .i64 32] w fun e w' => e = .returned (.bool true) ∧ w' = w := by
      have := within_any w pages 1 32
      rwa [decide_eq_true hp.1, decide_eq_true hp.2] at this
    have hfo := formed_any hR hf
    cases hB : fmB l with
    | false =>
      have hno : Hid (sOk l pages = false) := by
        show _ = _
        rw [Bool.eq_false_iff]
        intro h
        have := (sOk_iff.1 h).2.1
        rw [hB] at this
        cases this
      rw [hB] at hfo
      clear hB hp
      go_enter Try.func19, Try.ntmps19
      go_wp2_with fail
      refine hw.mono ?_
      rintro e wz ⟨rfl, rfl⟩
      go_wp2_with fail
      refine hfo.mono ?_
      rintro e w2 ⟨rfl, K2⟩
      go_wp2_with fail
      go_ret2
      exact Or.inr ⟨hno, rfl, K2⟩
    | true =>
      rw [hB] at hfo
      obtain ⟨m, hm⟩ : ∃ m, m = l.length := ⟨_, rfl⟩
      have hm' : Hid (m = l.length) := hm
      have hl5 := fmB_len hB
      have hcut : Hid (∀ w', Keep (fun _ => False) w w' → (∀ x ∈ l, x.phys ≤ 1048576) → Calls Try.prog 24 #[.slice a m cap, .int .i64 pages] w' fun e w2 => ∃ a' c', e = .returned (.slice a' (splL pages l).length c') ∧ Rr w' w2 a' c' (splL pages l)) := fun w' k h => by
        rw [hm]
        exact cut_any (hR.more k) (Ft13.of (by rw [← fm_fit (fun x hx => by have := h x hx; omega)]; exact hB)) hp
      have hB' : Hid (fmB l = true) := hB
      have hp' : Hid (1 ≤ pages ∧ pages ≤ 32) := hp
      rw [← hm] at hlc hfo hl5 ⊢
      clear hm hB hp
      go_enter Try.func19, Try.ntmps19
      go_wp2_with fail
      refine hw.mono ?_
      rintro e wz ⟨rfl, rfl⟩
      go_wp2_with fail
      refine hfo.mono ?_
      rintro e w2 ⟨rfl, K2⟩
      clear hw hfo
      go_wp2_with fail
      go_loopw [18] (fun v wx => ∃ i : Nat, i ≤ m ∧ v = .int .i64 (i : Int) ∧ Hid (∀ y ∈ l.take i, y.phys ≤ 1048576) ∧ Keep (fun _ => False) wz wx) (fun v _ => m - (intOf v).toNat)
      case atStart => exact ⟨0, by omega, rfl, (fun y hy => by simp at hy), K2⟩
      case round =>
        obtain ⟨i, hi, rfl, hI, k1⟩ := hrel
        by_cases hlt : i < m
        · obtain ⟨x, hx⟩ := get_rn (m := l) (i := i) (by rw [← show m = l.length from hm']; exact hlt)
          obtain ⟨g, o, rfl, c0, c1, c2⟩ := (hR.more k1).at hx
          have di : (i : Int) < (m : Int) := by omega
          have dw := wrapI (x := (i : Int) + 1) (by omega) (by omega)
          have hlt' : Hid (i < m) := hlt
          have K3 : Keep (fun _ => False) wz (wr.alloc (.cells #[.int .i64 x.lba, .int .i64 x.len, .int .i64 x.phys] 35)) := k1.alloc _
          by_cases c : x.phys ≤ 1048576
          · have q1 : ¬ 1048576 < x.phys := by omega
            have hI2 : Hid (∀ y ∈ l.take (i + 1), y.phys ≤ 1048576) := fun y hy => by
              rw [take_next hx] at hy
              rcases List.mem_append.1 hy with hy | hy
              · exact (show ∀ y ∈ l.take i, y.phys ≤ 1048576 from hI) y hy
              · simp at hy
                subst hy
                exact c
            clear hx hI hlt c
            go_wp2_with fail
            go_roundw
            case rel => exact ⟨i + 1, hlt', by go_num, hI2, K3⟩
            case measure => have : i < m := hlt'; simp [intOf]; omega
          · have q1 : 1048576 < x.phys := by omega
            have hno : Hid (sOk l pages = false) := by
              show _ = _
              rw [Bool.eq_false_iff]
              intro h
              exact c ((sOk_iff.1 h).2.2 x (List.mem_of_getElem? hx))
            clear hx hI hlt c
            go_wp2_with fail
            go_ret2
            exact Or.inr ⟨hno, rfl, K3⟩
        · have di : ¬ (i : Int) < (m : Int) := by omega
          have hall := show ∀ y ∈ l.take i, y.phys ≤ 1048576 from hI
          rw [List.take_of_length_le (by rw [← show m = l.length from hm']; omega)] at hall
          have hyes : Hid (sOk l pages = true) := sOk_iff.2 ⟨hp', hB', hall⟩
          have hc := (show ∀ w', _ → _ → _ from hcut) wr k1 hall
          clear hlt hI hall hcut
          go_wp2_with fail
          refine hc.mono ?_
          rintro e w5 ⟨a', c', rfl, R5⟩
          have R6 := R5.older k1
          clear hc R5
          go_wp2_with fail
          go_ret2
          exact Or.inl ⟨hyes, a', c', rfl, R6⟩
  · have hw : Calls Try.prog 21 #[.int .i64 pages, .int .i64 1, .int .i64 32] w fun e w' => e = .returned (.bool false) ∧ w' = w := by
      have := within_any w pages 1 32
      rwa [show (decide (1 ≤ pages) && decide (pages ≤ 32)) = false by simp; omega] at this
    have hno : Hid (sOk l pages = false) := by
      show _ = _
      rw [Bool.eq_false_iff]
      intro h
      exact hp (sOk_iff.1 h).1
    clear hp
    go_enter Try.func19, Try.ntmps19
    go_wp2_with fail
    refine hw.mono ?_
    rintro e wz ⟨rfl, rfl⟩
    go_wp2_with fail
    go_ret2
    exact Or.inr ⟨hno, rfl, K0⟩
theorem split_ok : SplitOk := fun {w a cap l} pages hR hf _ => by
  refine (split_any pages hR hf).mono ?_
  rintro e w' (⟨h1, a', c', rfl, R⟩ | ⟨h1, rfl, K⟩)
  · rw [if_pos h1]
    exact ⟨⟨a', c', rfl, R.rs.rz⟩, R.keep⟩
  · rw [if_neg (by rw [h1]; simp)]
    exact ⟨⟨none, 0, rfl⟩, K⟩
/-- What Moves answers (a letter to the walk). -/
def MovQ (l : List Rn) (pages b : Int) (w : World) (e : Ending) (w' : World) : Prop := ((sOk l pages = true ∧ 0 ≤ b ∧ b < 64) ∧ ∃ a' c', e = .returned (.tuple #[.slice a' (movL pages b l).length c', .int .i64 0]) ∧ Rr w w' a' c' (movL pages b l)) ∨ (¬ (sOk l pages = true ∧ 0 ≤ b ∧ b < 64) ∧ e = .returned (.tuple #[.slice none 0 0, .int .i64 1]) ∧ Keep (fun _ => False) w w')
set_option maxRecDepth 100000 in
set_option maxHeartbeats 1000000 in
theorem moves_any {w : World} {a : Option Addr} {cap : Nat} {l : List Rn} (b pages : Int) (hR : Rz w a cap l) (hf : Fits l) :
    Calls Try.prog 11 #[.slice a l.length cap, .int .i64 b, .int .i64 pages] w fun e w' => MovQ l pages b w e w' := by
  have hsp := split_any pages hR hf
  obtain ⟨m, hm⟩ : ∃ m, m = l.length := ⟨_, rfl⟩
  rw [← hm] at hsp ⊢
  clear hm
  go_enter Try.func11, Try.ntmps11
  go_wp2_with fail
  refine hsp.mono ?_
  clear hsp hR
  rintro e w2 (⟨h1, a2, c2, rfl, R2⟩ | ⟨h1, rfl, K⟩)
  · obtain ⟨hp, hfb, hph⟩ := sOk_iff.1 h1
    have hF : Ft13 l := Ft13.of (by rw [← fm_fit (fun x hx => by have := hph x hx; omega)]; exact hfb)
    by_cases hb : 0 ≤ b ∧ b < 64
    · have hw : Calls Try.prog 21 #[.int .i64 b, .int .i64 0, .int .i64 63] w2 fun e w' => e = .returned (.bool true) ∧ w' = w2 := by
        have := within_any w2 b 0 63
        rwa [decide_eq_true hb.1, decide_eq_true (show b ≤ 63 by omega)] at this
      have hsl : (splL pages l).length ≤ 512 := splL_512 hF
      have hbd : Hid (∀ y ∈ splL pages l, 0 ≤ y.phys ∧ y.phys ≤ 1073742336) := fun y hy => ⟨(splL_in hF hy).2.2.2.2.1, (splL_in hF hy).2.2.2.2.2⟩
      have hfin : Hid (∀ (e : Ending) (w' : World), (∃ a' c', e = .returned (.tuple #[.slice a' (movL pages b l).length c', .int .i64 0]) ∧ Rr w w' a' c' (movL pages b l)) → MovQ l pages b w e w') := fun e w' h => Or.inl ⟨⟨h1, hb⟩, h⟩
      have hp0 : ¬ pages = 0 := by omega
      have hp1 : 1 ≤ pages := hp.1
      unfold movL at hfin
      obtain ⟨S, hS⟩ : ∃ S, S = splL pages l := ⟨_, rfl⟩
      rw [← hS] at hsl hbd hfin R2 ⊢
      obtain ⟨n, hn⟩ : ∃ n, n = S.length := ⟨_, rfl⟩
      have hn' : Hid (n = S.length) := hn
      rw [← hn] at hsl ⊢
      clear hS hn h1 hp hfb hph hF hb hf
      go_wp2_with fail
      refine hw.mono ?_
      rintro e wz ⟨rfl, e0⟩
      have e0 := e0.symm
      subst e0
      clear hw
      have Z2 := R2.rs.rz
      have hc2 := Z2.1
      rw [← show n = S.length from hn'] at hc2
      have hc3 := Z2.2.1
      have R0 : Rr w w2 none 0 ((S.take 0).filter (fun x => decide (x.phys / pages = b))) := by
        have := (Rr.nil w).more R2.keep
        simpa using this
      have hblk : ∀ ad : Addr, a2 = some ad → w.heap.size ≤ ad.block ∧ ad.block < w2.heap.size := fun ad e => by
        rcases R2.own.2 with ⟨e', -⟩ | ⟨g, c, cur, e', -⟩
        · injection e' with e'; rw [e] at e'; cases e'
        · injection e' with e'
          rw [e] at e'
          injection e' with e'
          subst e'
          exact R2.block e
      have hst2 : Hid (∀ ad : Addr, a2 = some ad → ad.block < w2.heap.size) := fun ad e => (hblk ad e).2
      clear hblk
      go_wp2_with fail
      go_loopw [10, 28] (fun rv v wx => ∃ (i k c' : Nat) (a' : Option Addr), i ≤ n ∧ v = .int .i64 (i : Int) ∧ rv = .slice a' k c' ∧ Hid (k = ((S.take i).filter (fun x => decide (x.phys / pages = b))).length) ∧ k ≤ i ∧ Rr w wx a' c' ((S.take i).filter (fun x => decide (x.phys / pages = b))) ∧ Rz wx a2 c2 S ∧ Hid (∀ g, a' = some ⟨g, 0, none⟩ → ∀ ad : Addr, a2 = some ad → ad.block ≠ g) ∧ Hid (∀ ad : Addr, a2 = some ad → ad.block < wx.heap.size)) (fun _ v _ => n - (intOf v).toNat)
      case atStart => exact ⟨0, 0, 0, none, by omega, rfl, rfl, by show _ = _; simp, by omega, R0, Z2, (fun g e => by cases e), hst2⟩
      case round =>
        clear R0 Z2 hst2
        obtain ⟨i, k, c', a', hi, rfl, rfl, hk, hki, R, Z, hne, hb2⟩ := hrel
        by_cases hlt : i < n
        · obtain ⟨x, hx⟩ := get_rn (m := S) (i := i) (by rw [← show n = S.length from hn']; exact hlt)
          have hxb := (show ∀ y ∈ S, 0 ≤ y.phys ∧ y.phys ≤ 1073742336 from hbd) x (List.mem_of_getElem? hx)
          obtain ⟨g, o, ea, x0, x1, x2⟩ := Z.at hx
          have hnx : S.take (i + 1) = S.take i ++ [x] := take_next hx
          have di : (i : Int) < (n : Int) := by omega
          have dw := wrapI (x := (i : Int) + 1) (by omega) (by omega)
          have hlt' : Hid (i < n) := hlt
          have hki' : Hid (k ≤ i + 1) := by show _ ≤ _; omega
          have hki2 : Hid (k + 1 ≤ i + 1) := by show _ ≤ _; omega
          obtain ⟨q, hq⟩ : ∃ q, q = x.phys / pages := ⟨_, rfl⟩
          have hq0 : 0 ≤ q := by rw [hq]; exact Int.ediv_nonneg (by omega) (by omega)
          have hq1 : q ≤ x.phys := by rw [hq]; exact Int.ediv_le_self _ (by omega)
          have f1 : x.phys.tdiv pages = q := by rw [Int.tdiv_eq_ediv_of_nonneg (by omega)]; exact hq.symm
          have f2 : IntKind.i64.wrap q = q := wrapI (by omega) (by omega)
          have KA : Keep (fun _ => False) wr (wr.alloc (.cells #[.int .i64 x.lba, .int .i64 x.len, .int .i64 x.phys] 35)) := (Keep.refl _ _).alloc _
          have LA : Lrn (wr.alloc (.cells #[.int .i64 x.lba, .int .i64 x.len, .int .i64 x.phys] 35)) wr.heap.size x := Lrn.new wr x
          have hb2 : Hid (∀ ad : Addr, a2 = some ad → ad.block < (wr.alloc (.cells #[.int .i64 x.lba, .int .i64 x.len, .int .i64 x.phys] 35)).heap.size) := fun ad e => Nat.lt_of_lt_of_le ((show ∀ ad : Addr, a2 = some ad → ad.block < wr.heap.size from hb2) ad e) KA.size
          have R := R.more KA
          have Z := Z.more KA
          subst ea
          clear hlt hx
          go_upto_region 8 with fail
          generalize wr.alloc (.cells #[.int .i64 x.lba, .int .i64 x.len, .int .i64 x.phys] 35) = w3 at LA hb2 R Z ⊢
          generalize wr.heap.size = G at LA ⊢
          have l0 : w3.cell? ⟨G, 0, none⟩ = some (.int .i64 x.lba) := (LA 0 (by omega)).1
          have l1 : w3.cell? ⟨G, 1, none⟩ = some (.int .i64 x.len) := (LA 1 (by omega)).1
          have l2 : w3.cell? ⟨G, 2, none⟩ = some (.int .i64 x.phys) := (LA 2 (by omega)).1
          clear x0 x1 x2 KA LA
          by_cases hc : q = b
          · have hfl : (S.take (i + 1)).filter (fun x => decide (x.phys / pages = b)) = (S.take i).filter (fun x => decide (x.phys / pages = b)) ++ [x] := by rw [hnx, List.filter_append]; congr 1; rw [List.filter_cons, ← hq, if_pos (decide_eq_true hc)]; rfl
            obtain ⟨a5, c5, w5, happ, R5, K5, h5⟩ := R.appS (by rw [← show k = _ from hk]; omega) x
            rw [← show k = _ from hk] at happ
            rw [← hfl] at R5
            have hk5 : Hid (k + 1 = ((S.take (i + 1)).filter (fun x => decide (x.phys / pages = b))).length) := by show _ = _; rw [hfl, List.length_append, ← show k = _ from hk]; rfl
            have Z5 := Z.keep K5 (fun g' o' e' _ e2 => (show ∀ g, a' = some ⟨g, 0, none⟩ → ∀ ad : Addr, _ = some ad → ad.block ≠ g from hne) g' e2 _ e' rfl)
            have hb5 : Hid (∀ ad : Addr, some (⟨g, o, none⟩ : Addr) = some ad → ad.block < w5.heap.size) := fun ad e => Nat.lt_of_lt_of_le ((show ∀ ad : Addr, _ = some ad → ad.block < w3.heap.size from hb2) ad e) K5.size
            have hne5 : Hid (∀ g', a5 = some ⟨g', 0, none⟩ → ∀ ad : Addr, some (⟨g, o, none⟩ : Addr) = some ad → ad.block ≠ g') := fun g' e ad e2 => by
              rcases h5 with rfl | ⟨g5, rfl, hg5⟩
              · exact (show ∀ g, a5 = some ⟨g, 0, none⟩ → ∀ ad : Addr, _ = some ad → ad.block ≠ g from hne) g' e ad e2
              · injection e with e
                injection e with e
                have := (show ∀ ad : Addr, _ = some ad → ad.block < w3.heap.size from hb2) ad e2
                omega
            have g1 : (q == b) = true := by rw [beq_iff_eq]; exact hc
            have g2 : decide (q = b) = true := decide_eq_true hc
            clear hfl hnx R Z hne hb2 K5 h5 hk hq hc hbd
            go_wp2_with (at_builtin; refine wpList_append_run rfl (.tmp 38) (.tmp 40) 27 rfl (by rfl) (by rfl) happ ?_)
            go_roundw
            case rel => exact ⟨i + 1, k + 1, c5, a5, hlt', by go_num, rfl, hk5, hki2, R5, Z5, hne5, hb5⟩
            case measure => have : i < n := hlt'; simp [intOf]; omega
          · have hfl : (S.take (i + 1)).filter (fun x => decide (x.phys / pages = b)) = (S.take i).filter (fun x => decide (x.phys / pages = b)) := by rw [hnx, List.filter_append, List.filter_cons, ← hq, if_neg (by simp [hc])]; simp
            rw [← hfl] at R hk
            have g1 : (q == b) = false := by rw [beq_eq_false_iff_ne]; exact hc
            have g2 : decide (q = b) = false := decide_eq_false hc
            clear hfl hnx hq hc
            go_wp2_with fail
            go_roundw
            case rel => exact ⟨i + 1, k, c', a', hlt', by go_num, rfl, hk, hki', R, Z, hne, hb2⟩
            case measure => have : i < n := hlt'; simp [intOf]; omega
        · have di : ¬ (i : Int) < (n : Int) := by omega
          rw [List.take_of_length_le (by rw [← show n = S.length from hn']; omega)] at R hk
          clear hlt
          go_wp2_with fail
          go_ret2
          exact (show ∀ e w', _ → _ from hfin) _ _ ⟨a', c', by rw [← show k = _ from hk]; rfl, R⟩
    · have hw : Calls Try.prog 21 #[.int .i64 b, .int .i64 0, .int .i64 63] w2 fun e w' => e = .returned (.bool false) ∧ w' = w2 := by
        have := within_any w2 b 0 63
        rwa [show (decide (0 ≤ b) && decide (b ≤ 63)) = false by simp; omega] at this
      have hno : Hid (¬ (sOk l pages = true ∧ 0 ≤ b ∧ b < 64)) := fun h => hb h.2
      have K2 := R2.keep
      clear hb hp hfb hph hF h1 R2
      go_wp2_with fail
      refine hw.mono ?_
      rintro e wz ⟨rfl, rfl⟩
      go_wp2_with fail
      go_ret2
      exact Or.inr ⟨hno, rfl, K2⟩
  · have hno : Hid (¬ (sOk l pages = true ∧ 0 ≤ b ∧ b < 64)) := fun h => by rw [h1] at h; cases h.1
    clear h1
    go_wp2_with fail
    go_ret2
    exact Or.inr ⟨hno, rfl, K⟩
theorem moves_ok : MovesOk := fun {w a cap l} b pages hR hf _ _ => by
  refine (moves_any b pages hR hf).mono ?_
  rintro e w' (⟨h1, a', c', rfl, R⟩ | ⟨h1, rfl, K⟩)
  · rw [if_pos h1]
    refine ⟨⟨a', c', rfl, R.rs.rz, fun g o e hm => ?_⟩, R.keep⟩
    obtain ⟨g', rfl⟩ := R.some hm
    injection e with e
    injection e with e1 e2
    subst e1
    exact (R.block rfl).1
  · rw [if_neg h1]
    exact ⟨⟨none, 0, rfl⟩, K⟩
end Tg
end Go.Proofs.Ytkddonmddgfpnab
