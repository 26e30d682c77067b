/-
  ModelPlays' body, given what the program's calls answer.
-/
import Derived.Test.YtikepmdlpalpfaaMp
import Derived.Deep.CutRange
import Derived.Deep.Slices
namespace Go.Proofs.Ytikepmdlpalpfaa
open Go.ChangeShapes Go.WideShapes Go.ChangeAt Go.RowKit
namespace Tg
/-- A list of calls in memory. -/
def Acs (W : World) (a : Option Addr) (len cap : Nat) : Prop :=
  len ≤ cap ∧ cap ≤ 9223372036854775807 ∧ (len = 0 ∨ ∃ b off, a = some ⟨b, off, none⟩ ∧ ∀ i, i < len → ∃ (o xl xn : Int) (xd : ByteArray), I64 xl ∧ I64 xn ∧ xd.size ≤ 9223372036854775807 ∧ W.cell? ⟨b, off + i * 4, none⟩ = some (.int .i64 o) ∧ W.cell? ⟨b, off + i * 4 + 1, none⟩ = some (.int .i64 xl) ∧ W.cell? ⟨b, off + i * 4 + 2, none⟩ = some (.int .i64 xn) ∧ W.cell? ⟨b, off + i * 4 + 3, none⟩ = some (.string xd))
theorem Keep.cellF {w w' : World} (k : Keep (fun _ => False) w w') {a : Addr} {v : Value} (h : w.cell? a = some v) : w'.cell? a = some v := by
  rw [← h]
  exact World.cell?_of_block (w := w) (a := a) (k.block a.block (World.block_lt_of_cell? w _ h) (fun e => e))
theorem Acs.at {w w' : World} {a : Option Addr} {len cap : Nat} (h : Acs w a len cap) (k : Keep (fun _ => False) w w') {i : Nat} (hi : i < len) : ∃ b off, a = some ⟨b, off, none⟩ ∧ ∃ (o xl xn : Int) (xd : ByteArray), I64 xl ∧ I64 xn ∧ xd.size ≤ 9223372036854775807 ∧ w'.cell? ⟨b, off + i * 4, none⟩ = some (.int .i64 o) ∧ w'.cell? ⟨b, off + i * 4 + 1, none⟩ = some (.int .i64 xl) ∧ w'.cell? ⟨b, off + i * 4 + 2, none⟩ = some (.int .i64 xn) ∧ w'.cell? ⟨b, off + i * 4 + 3, none⟩ = some (.string xd) := by
  rcases h.2.2 with h0 | ⟨b, off, rfl, hc⟩
  · omega
  · obtain ⟨o, xl, xn, xd, i1, i2, i3, c0, c1, c2, c3⟩ := hc i hi
    exact ⟨b, off, rfl, o, xl, xn, xd, i1, i2, i3, k.cellF c0, k.cellF c1, k.cellF c2, k.cellF c3⟩
/-- The play in the midst of it. -/
def PlI (M : (Nat → Prop) → World → Nat → List Int → Prop) (w0 : World) (N p len : Nat) (sv cv wv iv : Value) (wx : World) : Prop :=
  ∃ (i q : Nat) (l m : List Int), i ≤ len ∧ iv = .int .i64 (i : Int) ∧ sv = .string (strOfNums l) ∧ cv = Ptr q ∧ wv = .string (strOfNums m) ∧ (l.length = N * 32 ∧ B8 l) ∧ (m.length = N * 32 ∧ B8 m) ∧ Two M w0 wx p q l m
theorem nums_nil : nums ⟨#[]⟩ = [] := rfl
set_option maxRecDepth 100000 in
set_option maxHeartbeats 4000000 in
theorem plays_none {M : (Nat → Prop) → World → Nat → List Int → Prop} (H : ArrOk M) (w : World) {a : Option Addr} {len cap : Nat} {at_ : Int} {cp : Int} (i0 : I64 cp) (hc : ¬ (1 ≤ cp ∧ cp ≤ 512)) :
    Calls Try.prog 4 #[.int .i64 cp, .slice a len cap, .int .i64 at_] w fun e w' => e = .returned (.bool true) ∧ Keep (fun _ => False) w w' := by
  by_cases d1 : cp < 1
  · have hA := awake_any H w
    go_enter Try.func4, Try.ntmps4
    go_wp2_with fail
    refine (hA).mono ?_
    rintro e v1 ⟨rfl, a1⟩
    clear hA
    have c1 := H.new_no v1 i0 hc
    go_wp2_with fail
    refine (c1).mono ?_
    rintro e v2 ⟨rfl, a2⟩
    clear c1
    have HK := a1.trans a2
    go_wp2_with fail
    go_ret
    exact ⟨rfl, HK⟩
  · have d2 : 512 < cp := by omega
    have hA := awake_any H w
    go_enter Try.func4, Try.ntmps4
    go_wp2_with fail
    refine (hA).mono ?_
    rintro e v1 ⟨rfl, a1⟩
    clear hA
    have c1 := H.new_no v1 i0 hc
    go_wp2_with fail
    refine (c1).mono ?_
    rintro e v2 ⟨rfl, a2⟩
    clear c1
    have HK := a1.trans a2
    go_wp2_with fail
    go_ret
    exact ⟨rfl, HK⟩
set_option maxRecDepth 100000 in
set_option maxHeartbeats 4000000 in
theorem plays_len {M : (Nat → Prop) → World → Nat → List Int → Prop} (H : ArrOk M) (w : World) {a : Option Addr} {len cap : Nat} {at_ : Int} {N : Nat} (h1 : 1 ≤ N) (h2 : N ≤ 512) (hl : 40 < len) :
    Calls Try.prog 4 #[.int .i64 (N : Int), .slice a len cap, .int .i64 at_] w fun e w' => e = .returned (.bool true) ∧ Keep (fun _ => False) w w' := by
  have d1 : ¬ (N : Int) < 1 := by omega
  have d2 : ¬ (512 : Int) < (N : Int) := by omega
  have d3 : (40 : Int) < (len : Int) := by omega
  have hA := awake_any H w
  go_enter Try.func4, Try.ntmps4
  go_wp2_with fail
  refine (hA).mono ?_
  rintro e v1 ⟨rfl, a1⟩
  clear hA
  have c1 := one_new H a1 (n := N) h1 h2
  go_wp2_with fail
  refine (c1).mono ?_
  rintro e v2 ⟨p, rfl, O2⟩
  clear c1
  obtain ⟨S, m1, lo, K2⟩ := O2
  go_wp2_with fail
  go_ret
  exact ⟨rfl, K2⟩
set_option maxRecDepth 100000 in
set_option maxHeartbeats 4000000 in
theorem plays_cap {M : (Nat → Prop) → World → Nat → List Int → Prop} (H : ArrOk M) (w : World) {a : Option Addr} {len cap : Nat} {at_ : Int} {N : Nat} (h1 : 1 ≤ N) (h2 : N ≤ 512) (hl : ¬ 40 < len) (h3 : 64 < N) :
    Calls Try.prog 4 #[.int .i64 (N : Int), .slice a len cap, .int .i64 at_] w fun e w' => e = .returned (.bool true) ∧ Keep (fun _ => False) w w' := by
  have d1 : ¬ (N : Int) < 1 := by omega
  have d2 : ¬ (512 : Int) < (N : Int) := by omega
  have d3 : ¬ (40 : Int) < (len : Int) := by omega
  have d4 : (64 : Int) < (N : Int) := by omega
  have hA := awake_any H w
  go_enter Try.func4, Try.ntmps4
  go_wp2_with fail
  refine (hA).mono ?_
  rintro e v1 ⟨rfl, a1⟩
  clear hA
  have c1 := one_new H a1 (n := N) h1 h2
  go_wp2_with fail
  refine (c1).mono ?_
  rintro e v2 ⟨p, rfl, O2⟩
  clear c1
  obtain ⟨S, m1, lo, K2⟩ := O2
  go_wp2_with fail
  go_ret
  exact ⟨rfl, K2⟩
set_option maxRecDepth 100000 in
set_option maxHeartbeats 4000000 in
theorem plays_main {M : (Nat → Prop) → World → Nat → List Int → Prop} (H : ArrOk M) (w : World) {a : Option Addr} {len cap : Nat} {at_ : Int} {N : Nat} (h1 : 1 ≤ N) (h2 : N ≤ 64) (hlen : len ≤ 40) (hac : Acs w a len cap) :
    Calls Try.prog 4 #[.int .i64 (N : Int), .slice a len cap, .int .i64 at_] w fun e w' => e = .returned (.bool true) ∧ Keep (fun _ => False) w w' := by
  have d1 : ¬ (N : Int) < 1 := by omega
  have d2 : ¬ (512 : Int) < (N : Int) := by omega
  have d3 : ¬ (40 : Int) < (len : Int) := by omega
  have d4 : ¬ (64 : Int) < (N : Int) := by omega
  have hN : N ≤ 512 := by omega
  have hcap := hac.1
  have hac : Hid (Acs w a len cap) := hac
  have hlen : Hid (len ≤ 40) := hlen
  have hA := awake_any H w
  go_enter Try.func4, Try.ntmps4
  go_wp2_with fail
  refine (hA).mono ?_
  rintro e v1 ⟨rfl, a1⟩
  clear hA
  have c1 := one_new H a1 (n := N) h1 hN
  go_wp2_with fail
  refine (c1).mono ?_
  rintro e v2 ⟨p, rfl, O2⟩
  clear c1
  have c2 := fun w => rnew17 (n := N) hN w
  go_wp2_with fail
  refine (c2 _).mono ?_
  rintro e v3 ⟨rfl, a3⟩
  have O3 := O2.more H a3
  clear c2 O2
  have z0 : (List.replicate (N * 32) (0 : Int)).length = N * 32 := by simp
  have z8 := b8_zero (N * 32)
  generalize List.replicate (N * 32) (0 : Int) = Z at O3 z0 z8 ⊢
  have c3 := two_copy H O3 z0 hN
  go_wp2_with fail
  refine (c3).mono ?_
  rintro e v4 ⟨q, rfl, T4⟩
  clear c3 O3 d1 d2 d3 d4
  have hlen1 : Hid (1 ≤ N ∧ N ≤ 64) := ⟨h1, h2⟩
  clear h1 h2
  have P0 : PlI M w N p len (.string (strOfNums Z)) (Ptr q) (.string (strOfNums Z)) (.int .i64 0) v4 := ⟨0, q, Z, Z, by omega, rfl, rfl, rfl, rfl, ⟨z0, z8⟩, ⟨z0, z8⟩, T4⟩
  clear T4 z0 z8
  go_wp2_with fail
  go_loopw [9, 10, 11, 12] (fun sv cv wv iv wx => PlI M w N p len sv cv wv iv wx) (fun _ _ _ iv _ => len - (intOf iv).toNat)
  case atStart => exact P0
  case round =>
    clear P0
    obtain ⟨i, q1, l, m, hi, rfl, rfl, rfl, rfl, hl, hm, T⟩ := hrel
    by_cases hlt : i < len
    · obtain ⟨b, off, rfl, o, xl, xn, xd, i1, i2, i3, u0, u1, u2, u3⟩ := (show Acs w a len cap from hac).at T.kp hlt
      have di : (i : Int) < (len : Int) := by omega
      have dw := wrapI (x := (i : Int) + 1) (by have : len ≤ 40 := hlen; omega) (by have : len ≤ 40 := hlen; omega)
      have hlt' : Hid (i < len) := hlt
      have T1 := T.hold H (.cells #[.int .i64 o, .int .i64 xl, .int .i64 xn, .string xd] 35) (blk_act wr o xl xn xd)
      have i1 : Hid (I64 xl) := i1
      have i2 : Hid (I64 xn) := i2
      have i3 : Hid (xd.size ≤ 9223372036854775807) := i3
      have hl : Hid (l.length = N * 32 ∧ B8 l) := hl
      have hm : Hid (m.length = N * 32 ∧ B8 m) := hm
      clear hlt hi T
      obtain ⟨B, hB⟩ : ∃ B, ((i : Int) == at_) = B := ⟨_, rfl⟩
      go_upto_region 15 with fail
      generalize wr.alloc (.cells #[.int .i64 o, .int .i64 xl, .int .i64 xn, .string xd] 35) = x1 at T1 ⊢
      generalize wr.heap.size = g at T1 ⊢
      clear u0 u1 u2 u3
      go_upto_if 81 with fail
      clear hB
      go_cut [10, 11] from 69 to 204 (fun cv wv wx => ∃ (q' : Nat) (m' : List Int), cv = Ptr q' ∧ wv = .string (strOfNums m') ∧ Hid (m'.length = N * 32 ∧ B8 m') ∧ Hid (Twg M w wx g (acell o xl xn xd) p q' l m'))
      case first =>
        cases B with
        | true =>
          have c4 := twg_copy H T1 (show l.length = N * 32 ∧ B8 l from hl).1 hN
          go_wp2_with fail
          refine c4.mono ?_
          rintro e x2 ⟨q', rfl, T2⟩
          clear c4 T1
          go_wp2_with fail
          go_meet
          exact ⟨q', l, rfl, rfl, hl, T2⟩
        | false =>
          go_wp2_with fail
          go_meet
          exact ⟨q1, m, rfl, rfl, hm, T1⟩
      case rest =>
        obtain ⟨q2, m2, rfl, rfl, hm2, T2⟩ := hcut
        have T2 : Twg M w wc g (acell o xl xn xd) p q2 l m2 := T2
        clear T1 hm
        have cx0 : wc.cell? ⟨g, 0, none⟩ = some (.int .i64 o) := (T2.blk 0 (by omega)).1
        go_upto_block 2 with fail
        clear cx0
        go_cut [9] from 69 to 204 (fun sv wx => ∃ l' : List Int, sv = .string (strOfNums l') ∧ Hid (l'.length = N * 32 ∧ B8 l') ∧ Hid (Twg M w wx g (acell o xl xn xd) p q2 l' m2))
        case first =>
          by_cases o0 : o = 0
          · have ob : (o == 0) = true := by simp [o0]
            clear o0
            cases hok : okR N xl xn with
            | true =>
              have pk := okR_iff.1 hok
              obtain ⟨xl, rfl⟩ : ∃ n : Nat, xl = n := ⟨xl.toNat, by omega⟩
              obtain ⟨xn, rfl⟩ : ∃ n : Nat, xn = n := ⟨xn.toNat, by omega⟩
              have cx0 : wc.cell? ⟨g, 0, none⟩ = some (.int .i64 o) := (T2.blk 0 (by omega)).1
              have cx1 : wc.cell? ⟨g, 1, none⟩ = some (.int .i64 (xl : Int)) := (T2.blk 1 (by omega)).1
              have cx2 : wc.cell? ⟨g, 2, none⟩ = some (.int .i64 (xn : Int)) := (T2.blk 2 (by omega)).1
              have cx3 : wc.cell? ⟨g, 3, none⟩ = some (.string xd) := (T2.blk 3 (by omega)).1
              have c5 := rwrite17_yes (d := xd) (show l.length = N * 32 ∧ B8 l from hl).1 hN hok wc
              go_wp2_with fail
              refine (c5).mono ?_
              rintro e x3 ⟨rfl, a5⟩
              have T5 := T2.more H a5
              clear c5 T2 a5
              clear cx0 cx1 cx2 cx3
              have cx0 : x3.cell? ⟨g, 0, none⟩ = some (.int .i64 o) := (T5.blk 0 (by omega)).1
              have cx1 : x3.cell? ⟨g, 1, none⟩ = some (.int .i64 (xl : Int)) := (T5.blk 1 (by omega)).1
              have cx2 : x3.cell? ⟨g, 2, none⟩ = some (.int .i64 (xn : Int)) := (T5.blk 2 (by omega)).1
              have cx3 : x3.cell? ⟨g, 3, none⟩ = some (.string xd) := (T5.blk 3 (by omega)).1
              have c6 := twg_write H T5 (show l.length = N * 32 ∧ B8 l from hl).1 hN xd i3 hok
              go_wp2_with fail
              refine (c6).mono ?_
              rintro e x4 ⟨rfl, T6⟩
              clear c6 T5
              clear cx0 cx1 cx2 cx3
              have hn : Hid ((wrL l xl xn (nums xd)).length = N * 32 ∧ B8 (wrL l xl xn (nums xd))) := ⟨by rw [wrL_len (by have := (show l.length = N * 32 ∧ B8 l from hl).1; omega)]; exact (show l.length = N * 32 ∧ B8 l from hl).1, wrL_b8 (show l.length = N * 32 ∧ B8 l from hl).2 (nums_b8 xd)⟩
              generalize wrL l xl xn (nums xd) = l3 at hn T6 ⊢
              go_wp2_with fail
              go_meet
              exact ⟨l3, rfl, hn, T6⟩
            | false =>
              have cx0 : wc.cell? ⟨g, 0, none⟩ = some (.int .i64 o) := (T2.blk 0 (by omega)).1
              have cx1 : wc.cell? ⟨g, 1, none⟩ = some (.int .i64 xl) := (T2.blk 1 (by omega)).1
              have cx2 : wc.cell? ⟨g, 2, none⟩ = some (.int .i64 xn) := (T2.blk 2 (by omega)).1
              have cx3 : wc.cell? ⟨g, 3, none⟩ = some (.string xd) := (T2.blk 3 (by omega)).1
              have c5 := rwrite17_no (s := strOfNums l) (d := xd) (by rw [strOfNums_size]; exact (show l.length = N * 32 ∧ B8 l from hl).1) hN hok wc
              go_wp2_with fail
              refine (c5).mono ?_
              rintro e x3 ⟨rfl, a5⟩
              have T5 := T2.more H a5
              clear c5 T2 a5
              clear cx0 cx1 cx2 cx3
              have cx0 : x3.cell? ⟨g, 0, none⟩ = some (.int .i64 o) := (T5.blk 0 (by omega)).1
              have cx1 : x3.cell? ⟨g, 1, none⟩ = some (.int .i64 xl) := (T5.blk 1 (by omega)).1
              have cx2 : x3.cell? ⟨g, 2, none⟩ = some (.int .i64 xn) := (T5.blk 2 (by omega)).1
              have cx3 : x3.cell? ⟨g, 3, none⟩ = some (.string xd) := (T5.blk 3 (by omega)).1
              have c6 := twg_write_no H T5 (show l.length = N * 32 ∧ B8 l from hl).1 hN i1 i2 xd i3 hok
              go_wp2_with fail
              refine (c6).mono ?_
              rintro e x4 ⟨rfl, T6⟩
              clear c6 T5
              clear cx0 cx1 cx2 cx3
              have hn : Hid ((l).length = N * 32 ∧ B8 (l)) := hl
              go_wp2_with fail
              go_meet
              exact ⟨l, rfl, hn, T6⟩
          · have ob : (o == 0) = false := by simp [o0]
            by_cases o1 : o = 1
            · have oc : (o == 1) = true := by simp [o1]
              clear o0 o1
              cases hok : okR N xl xn with
              | true =>
                have pk := okR_iff.1 hok
                obtain ⟨xl, rfl⟩ : ∃ n : Nat, xl = n := ⟨xl.toNat, by omega⟩
                obtain ⟨xn, rfl⟩ : ∃ n : Nat, xn = n := ⟨xn.toNat, by omega⟩
                have cx0 : wc.cell? ⟨g, 0, none⟩ = some (.int .i64 o) := (T2.blk 0 (by omega)).1
                have cx1 : wc.cell? ⟨g, 1, none⟩ = some (.int .i64 (xl : Int)) := (T2.blk 1 (by omega)).1
                have cx2 : wc.cell? ⟨g, 2, none⟩ = some (.int .i64 (xn : Int)) := (T2.blk 2 (by omega)).1
                have cx3 : wc.cell? ⟨g, 3, none⟩ = some (.string xd) := (T2.blk 3 (by omega)).1
                have c5 := rwrite17_yes (d := ⟨#[]⟩) (show l.length = N * 32 ∧ B8 l from hl).1 hN hok wc
                go_wp2_with fail
                refine (c5).mono ?_
                rintro e x3 ⟨rfl, a5⟩
                have T5 := T2.more H a5
                clear c5 T2 a5
                clear cx0 cx1 cx2 cx3
                have cx0 : x3.cell? ⟨g, 0, none⟩ = some (.int .i64 o) := (T5.blk 0 (by omega)).1
                have cx1 : x3.cell? ⟨g, 1, none⟩ = some (.int .i64 (xl : Int)) := (T5.blk 1 (by omega)).1
                have cx2 : x3.cell? ⟨g, 2, none⟩ = some (.int .i64 (xn : Int)) := (T5.blk 2 (by omega)).1
                have cx3 : x3.cell? ⟨g, 3, none⟩ = some (.string xd) := (T5.blk 3 (by omega)).1
                have c6 := twg_trim H T5 (show l.length = N * 32 ∧ B8 l from hl).1 hN hok
                rw [nums_nil]
                go_wp2_with fail
                refine (c6).mono ?_
                rintro e x4 ⟨rfl, T6⟩
                clear c6 T5
                clear cx0 cx1 cx2 cx3
                have hn : Hid ((wrL l xl xn []).length = N * 32 ∧ B8 (wrL l xl xn [])) := ⟨by rw [wrL_len (by have := (show l.length = N * 32 ∧ B8 l from hl).1; omega)]; exact (show l.length = N * 32 ∧ B8 l from hl).1, wrL_b8 (show l.length = N * 32 ∧ B8 l from hl).2 (fun x hx => by cases hx)⟩
                generalize wrL l xl xn [] = l3 at hn T6 ⊢
                go_wp2_with fail
                go_meet
                exact ⟨l3, rfl, hn, T6⟩
              | false =>
                have cx0 : wc.cell? ⟨g, 0, none⟩ = some (.int .i64 o) := (T2.blk 0 (by omega)).1
                have cx1 : wc.cell? ⟨g, 1, none⟩ = some (.int .i64 xl) := (T2.blk 1 (by omega)).1
                have cx2 : wc.cell? ⟨g, 2, none⟩ = some (.int .i64 xn) := (T2.blk 2 (by omega)).1
                have cx3 : wc.cell? ⟨g, 3, none⟩ = some (.string xd) := (T2.blk 3 (by omega)).1
                have c5 := rwrite17_no (s := strOfNums l) (d := ⟨#[]⟩) (by rw [strOfNums_size]; exact (show l.length = N * 32 ∧ B8 l from hl).1) hN hok wc
                go_wp2_with fail
                refine (c5).mono ?_
                rintro e x3 ⟨rfl, a5⟩
                have T5 := T2.more H a5
                clear c5 T2 a5
                clear cx0 cx1 cx2 cx3
                have cx0 : x3.cell? ⟨g, 0, none⟩ = some (.int .i64 o) := (T5.blk 0 (by omega)).1
                have cx1 : x3.cell? ⟨g, 1, none⟩ = some (.int .i64 xl) := (T5.blk 1 (by omega)).1
                have cx2 : x3.cell? ⟨g, 2, none⟩ = some (.int .i64 xn) := (T5.blk 2 (by omega)).1
                have cx3 : x3.cell? ⟨g, 3, none⟩ = some (.string xd) := (T5.blk 3 (by omega)).1
                have c6 := twg_trim_no H T5 (show l.length = N * 32 ∧ B8 l from hl).1 hN i1 i2 hok
                go_wp2_with fail
                refine (c6).mono ?_
                rintro e x4 ⟨rfl, T6⟩
                clear c6 T5
                clear cx0 cx1 cx2 cx3
                have hn : Hid ((l).length = N * 32 ∧ B8 (l)) := hl
                go_wp2_with fail
                go_meet
                exact ⟨l, rfl, hn, T6⟩
            · have oc : (o == 1) = false := by simp [o1]
              clear o0 o1
              have cx0 : wc.cell? ⟨g, 0, none⟩ = some (.int .i64 o) := (T2.blk 0 (by omega)).1
              have cx1 : wc.cell? ⟨g, 1, none⟩ = some (.int .i64 xl) := (T2.blk 1 (by omega)).1
              have cx2 : wc.cell? ⟨g, 2, none⟩ = some (.int .i64 xn) := (T2.blk 2 (by omega)).1
              have cx3 : wc.cell? ⟨g, 3, none⟩ = some (.string xd) := (T2.blk 3 (by omega)).1
              go_wp2_with fail
              go_meet
              exact ⟨l, rfl, hl, T2⟩
        case rest =>
          obtain ⟨l2, rfl, hl2, T3⟩ := hcut
          have T3 : Twg M w wc g (acell o xl xn xd) p q2 l2 m2 := T3
          clear T2
          cases hok : okR N xl xn with
          | true =>
            have pk := okR_iff.1 hok
            obtain ⟨xl, rfl⟩ : ∃ n : Nat, xl = n := ⟨xl.toNat, by omega⟩
            obtain ⟨xn, rfl⟩ : ∃ n : Nat, xn = n := ⟨xn.toNat, by omega⟩
            have cx0 : wc.cell? ⟨g, 0, none⟩ = some (.int .i64 o) := (T3.blk 0 (by omega)).1
            have cx1 : wc.cell? ⟨g, 1, none⟩ = some (.int .i64 (xl : Int)) := (T3.blk 1 (by omega)).1
            have cx2 : wc.cell? ⟨g, 2, none⟩ = some (.int .i64 (xn : Int)) := (T3.blk 2 (by omega)).1
            have cx3 : wc.cell? ⟨g, 3, none⟩ = some (.string xd) := (T3.blk 3 (by omega)).1
            have c7 := twg_read H T3 (show l2.length = N * 32 ∧ B8 l2 from hl2).1 hN hok
            go_wp2_with fail
            refine (c7).mono ?_
            rintro e x5 ⟨rfl, T7⟩
            clear c7 T3
            clear cx0 cx1 cx2 cx3
            have cx0 : x5.cell? ⟨g, 0, none⟩ = some (.int .i64 o) := (T7.blk 0 (by omega)).1
            have cx1 : x5.cell? ⟨g, 1, none⟩ = some (.int .i64 (xl : Int)) := (T7.blk 1 (by omega)).1
            have cx2 : x5.cell? ⟨g, 2, none⟩ = some (.int .i64 (xn : Int)) := (T7.blk 2 (by omega)).1
            have cx3 : x5.cell? ⟨g, 3, none⟩ = some (.string xd) := (T7.blk 3 (by omega)).1
            have c8 := fun w => rread17_yes (l := l2) (show l2.length = N * 32 ∧ B8 l2 from hl2).1 hN hok w
            go_wp2_with fail
            refine (c8 _).mono ?_
            rintro e x6 ⟨rfl, e0⟩
            have e0 := e0.symm
            subst e0
            clear c8
            clear cx0 cx1 cx2 cx3
            have c9 := twg_cont H T7 (show l2.length = N * 32 ∧ B8 l2 from hl2).1 hN
            go_wp2_with fail
            refine (c9).mono ?_
            rintro e x7 ⟨rfl, T8⟩
            clear c9 T7
            have T8 := T8.symm
            have c10 := twg_cont H T8 (show m2.length = N * 32 ∧ B8 m2 from hm2).1 hN
            go_wp2_with fail
            refine (c10).mono ?_
            rintro e x8 ⟨rfl, T9⟩
            clear c10
            have T10 := T9.symm.two
            clear T9
            go_wp2_with fail
            go_roundw
            case rel => exact ⟨i + 1, q2, l2, m2, hlt', by go_num, rfl, rfl, rfl, hl2, hm2, T10⟩
            case measure => have : i < len := hlt'; simp [intOf]; omega
          | false =>
            have cx0 : wc.cell? ⟨g, 0, none⟩ = some (.int .i64 o) := (T3.blk 0 (by omega)).1
            have cx1 : wc.cell? ⟨g, 1, none⟩ = some (.int .i64 xl) := (T3.blk 1 (by omega)).1
            have cx2 : wc.cell? ⟨g, 2, none⟩ = some (.int .i64 xn) := (T3.blk 2 (by omega)).1
            have cx3 : wc.cell? ⟨g, 3, none⟩ = some (.string xd) := (T3.blk 3 (by omega)).1
            have c7 := twg_read_no H T3 (show l2.length = N * 32 ∧ B8 l2 from hl2).1 hN i1 i2 hok
            go_wp2_with fail
            refine (c7).mono ?_
            rintro e x5 ⟨rfl, T7⟩
            clear c7 T3
            clear cx0 cx1 cx2 cx3
            have cx0 : x5.cell? ⟨g, 0, none⟩ = some (.int .i64 o) := (T7.blk 0 (by omega)).1
            have cx1 : x5.cell? ⟨g, 1, none⟩ = some (.int .i64 xl) := (T7.blk 1 (by omega)).1
            have cx2 : x5.cell? ⟨g, 2, none⟩ = some (.int .i64 xn) := (T7.blk 2 (by omega)).1
            have cx3 : x5.cell? ⟨g, 3, none⟩ = some (.string xd) := (T7.blk 3 (by omega)).1
            have c8 := fun w => rread17_no (s := strOfNums l2) (by rw [strOfNums_size]; exact (show l2.length = N * 32 ∧ B8 l2 from hl2).1) hN hok w
            go_wp2_with fail
            refine (c8 _).mono ?_
            rintro e x6 ⟨rfl, e0⟩
            have e0 := e0.symm
            subst e0
            clear c8
            clear cx0 cx1 cx2 cx3
            have c9 := twg_cont H T7 (show l2.length = N * 32 ∧ B8 l2 from hl2).1 hN
            go_wp2_with fail
            refine (c9).mono ?_
            rintro e x7 ⟨rfl, T8⟩
            clear c9 T7
            have T8 := T8.symm
            have c10 := twg_cont H T8 (show m2.length = N * 32 ∧ B8 m2 from hm2).1 hN
            go_wp2_with fail
            refine (c10).mono ?_
            rintro e x8 ⟨rfl, T9⟩
            clear c10
            have T10 := T9.symm.two
            clear T9
            go_wp2_with fail
            go_roundw
            case rel => exact ⟨i + 1, q2, l2, m2, hlt', by go_num, rfl, rfl, rfl, hl2, hm2, T10⟩
            case measure => have : i < len := hlt'; simp [intOf]; omega
    · have di : ¬ (i : Int) < (len : Int) := by omega
      have c11 := two_dif H T hl.1 hN hm.1 hN hl.2 hm.2
      clear hlt hi
      go_wp2_with fail
      refine c11.mono ?_
      rintro e y1 ⟨a1_, n1, rfl, I1, T1⟩
      clear c11 T
      have c12 := fun w => rdif17 hl.1 hm.1 hN hN hl.2 hm.2 w
      go_wp2_with fail
      refine (c12 _).mono ?_
      rintro e y2 ⟨a2_, n2, rfl, R2⟩
      have T2 := T1.more H R2.keep
      have I2 := R2.is
      have I1 := I1.more R2.keep
      clear c12 T1 R2
      have hdl : (difL l m).length ≤ 512 := by
        refine Nat.le_trans (difK_len l m _) ?_
        rw [hl.1, hm.1]
        omega
      have j1 : (difL l m).length ≤ n1 := I1.1
      have j2 : (difL l m).length ≤ n2 := I2.1
      obtain ⟨D, hD⟩ : ∃ D, D = difL l m := ⟨_, rfl⟩
      rw [← hD] at I1 I2 hdl j1 j2 ⊢
      obtain ⟨n, hn⟩ : ∃ n, n = D.length := ⟨_, rfl⟩
      have hn' : Hid (n = D.length) := hn
      rw [← hn] at hdl j1 j2 ⊢
      have hl' : Hid (l.length = N * 32 ∧ B8 l) := hl
      have I1 : Hid (Is y2 a1_ n1 D) := I1
      have I2 : Hid (Is y2 a2_ n2 D) := I2
      clear hn hD hl hm
      go_wp2_with fail
      go_loopw [26] (fun kv wx => ∃ k : Nat, k ≤ n ∧ kv = .int .i64 (k : Int) ∧ Keep (fun _ => False) y2 wx) (fun kv _ => n - (intOf kv).toNat)
      case atStart => exact ⟨0, by omega, rfl, Keep.refl _ _⟩
      case round =>
        obtain ⟨k, hk, rfl, kk⟩ := hrel
        by_cases hlk : k < n
        · obtain ⟨g1, rfl, s1⟩ := ((show Is y2 a1_ n1 D from I1).more kk).at (i := k) (by rw [← show n = D.length from hn']; exact hlk)
          obtain ⟨g2, rfl, s2⟩ := ((show Is y2 a2_ n2 D from I2).more kk).at (i := k) (by rw [← show n = D.length from hn']; exact hlk)
          have dk : (k : Int) < (n : Int) := by omega
          have dwk := wrapI (x := (k : Int) + 1) (by omega) (by omega)
          have hlk' : Hid (k < n) := hlk
          generalize D.getD k (-1) = dv at s1 s2
          clear hlk hk
          go_wp2_with fail
          go_quiet (fail)
          go_wp2_with fail
          go_roundw
          case rel => exact ⟨k + 1, hlk', by go_num, kk.drewN _⟩
          case measure => have : k < n := hlk'; simp [intOf]; omega
        · have dk : ¬ (k : Int) < (n : Int) := by omega
          have T3 := T2.more H kk
          obtain ⟨n1_, n2_⟩ : 1 ≤ N ∧ N ≤ 64 := hlen1
          obtain ⟨H2, hH2⟩ : ∃ H2, H2 = N / 2 := ⟨_, rfl⟩
          have q1 : (N : Int).tdiv 2 = (H2 : Int) := by rw [Int.tdiv_eq_ediv_of_nonneg (by omega)]; omega
          have q2 := wrapI (x := (H2 : Int)) (by omega) (by omega)
          have q3 : IntKind.i64.wrap ((H2 : Int) + 1) = ((H2 + 1 : Nat) : Int) := by rw [wrapI (by omega) (by omega)]; rfl
          have hb1 : 1 ≤ H2 + 1 := by omega
          have hb2 : H2 + 1 ≤ 512 := by omega
          clear hH2 n1_ n2_
          generalize H2 + 1 = K at *
          have c13 := two_new H T3.one (n := K) hb1 hb2
          go_wp2_with fail
          refine c13.mono ?_
          rintro e y3 ⟨r, rfl, T4⟩
          clear c13 T3 T2
          have zk : (List.replicate (K * 32) (0 : Int)).length = K * 32 := by simp
          have zk8 := b8_zero (K * 32)
          have c14 := two_dif H T4 (show l.length = N * 32 ∧ B8 l from hl').1 hN zk hb2 (show l.length = N * 32 ∧ B8 l from hl').2 zk8
          go_wp2_with fail
          refine c14.mono ?_
          rintro e y4 ⟨a4_, n4, rfl, I4, T5⟩
          clear c14 T4 I4
          have c15 := fun w => rnew17 (n := K) hb2 w
          go_wp2_with fail
          refine (c15 _).mono ?_
          rintro e y5 ⟨rfl, a5⟩
          have T6 := T5.more H a5
          clear c15 T5 a5
          have c16 := fun w => rdif17 (show l.length = N * 32 ∧ B8 l from hl').1 zk hN hb2 (show l.length = N * 32 ∧ B8 l from hl').2 zk8 w
          go_wp2_with fail
          refine (c16 _).mono ?_
          rintro e y6 ⟨a6_, n6, rfl, R6⟩
          have T7 := T6.more H R6.keep
          clear c16 T6 R6
          have c17 := two_self H T7 (show l.length = N * 32 ∧ B8 l from hl').1 hN (show l.length = N * 32 ∧ B8 l from hl').2
          go_wp2_with fail
          refine c17.mono ?_
          rintro e y7 ⟨a7_, n7, rfl, T8⟩
          have HK := T8.kp
          clear c17 T7
          go_wp2_with fail
          go_ret
          exact ⟨rfl, HK⟩
end Tg
end Go.Proofs.Ytikepmdlpalpfaa
