/-
  Changes of ranges that share no sector make the same map in either order.
-/
import Derived.Test.YtobljchpphcolaaOneW
namespace Go.Proofs.Ytobljchpphcolaa
open Go.ChangeShapes Go.WideShapes Go.ChangeAt Go.RowKit
namespace Tg

theorem oneL_is (cap : Int) (f : Nat → Int) : (∀ m, oneL cap f m = m) ∨ ∃ X : Rn, X.lba = f 1 ∧ X.len = f 2 ∧ ∀ m, oneL cap f m = chg X m := by
  by_cases c0 : f 0 = 0
  · by_cases c : okR cap (f 1) (f 2) = true ∧ 0 ≤ f 3 ∧ f 3 ≤ 1048576
    · exact Or.inr ⟨⟨f 1, f 2, f 3⟩, rfl, rfl, fun m => by rw [oneL, if_pos c0, if_pos c, chg, if_neg (by simp only; omega)]⟩
    · exact Or.inl (fun m => by rw [oneL, if_pos c0, if_neg c])
  · by_cases c : okR cap (f 1) (f 2) = true
    · exact Or.inr ⟨⟨f 1, f 2, -1⟩, rfl, rfl, fun m => by rw [oneL, if_neg c0, if_pos c, chg, if_pos (by simp)]; rfl⟩
    · exact Or.inl (fun m => by rw [oneL, if_neg c0, if_neg c])
theorem oneL_comm {cap : Int} {f g : Nat → Int} (hf : okR cap (f 1) (f 2) = true) (hg : okR cap (g 1) (g 2) = true) (hd : f 1 + f 2 ≤ g 1 ∨ g 1 + g 2 ≤ f 1) {m : List Rn} (hm : Form m) : oneL cap f (oneL cap g m) = oneL cap g (oneL cap f m) := by
  obtain ⟨f1, f2, f3⟩ := okR_iff.1 hf
  obtain ⟨g1, g2, g3⟩ := okR_iff.1 hg
  rcases oneL_is cap f with hF | ⟨X, x1, x2, hX⟩
  · rw [hF, hF]
  · rcases oneL_is cap g with hG | ⟨Y, y1, y2, hY⟩
    · rw [hG, hG]
    · rw [hX, hY, hY, hX]
      exact chg_comm (by omega) (by omega) (by omega) (by omega) (by unfold Rn.fin; omega) hm

theorem Mt.older {w w0 wr : World} {b p k N : Nat} {l : List Nat} {t : Tr} (h : Mt w wr b p k N l t) (hk : Keep (fun _ => False) w0 w) : Mt w0 wr b p k N l t :=
  ⟨h.ex, by have := h.b; have := hk.size; omega, by have := h.p; have := hk.size; omega, by have := h.k; have := hk.size; omega, hk.trans h.keep⟩
theorem Mp.older {w w0 wr : World} {q b p k N cap : Nat} {m : List Rn} (h : Mp w wr q b p k N cap m) (hk : Keep (fun _ => False) w0 w) : Mp w0 wr q b p k N cap m := by
  obtain ⟨l, t, hT, e⟩ := h.ex
  exact ⟨⟨l, t, hT.older hk, e⟩, h.top, by have := h.qw; have := hk.size; omega, h.qb, h.qp, h.qk, h.form, h.lim, h.cap1, h.cap2, h.N1, h.N2⟩
theorem Mp.blocks {w wr : World} {q b p k N cap : Nat} {m : List Rn} (h : Mp w wr q b p k N cap m) : w.heap.size ≤ q ∧ w.heap.size ≤ b ∧ w.heap.size ≤ p ∧ w.heap.size ≤ k := by
  obtain ⟨l, t, hT, e⟩ := h.ex
  exact ⟨h.qw, hT.b, hT.p, hT.k⟩
/-- Two maps, apart from each other, made since w. -/
structure Two (w wr : World) (q b p k q' b' p' k' : Nat) (cap : Nat) (m m' : List Rn) : Prop where
  x : Mp w wr q b p k 512 cap m
  y : Mp w wr q' b' p' k' 512 cap m'
  ap : ∀ z, (z = q ∨ Own3 b p k z) → (z = q' ∨ Own3 b' p' k' z) → False
theorem Two.more {w wr w' : World} {q b p k q' b' p' k' cap : Nat} {m m' : List Rn} (h : Two w wr q b p k q' b' p' k' cap m m') (hk : Keep (fun _ => False) wr w') : Two w w' q b p k q' b' p' k' cap m m' := ⟨h.x.more hk, h.y.more hk, h.ap⟩
theorem Two.toX {w wr w' : World} {q b p k q' b' p' k' cap : Nat} {m m' n : List Rn} (h : Two w wr q b p k q' b' p' k' cap m m') (hx : Mp w w' q b p k 512 cap n) (hk : Keep (Own3 b p k) wr w') : Two w w' q b p k q' b' p' k' cap n m' :=
  ⟨hx, h.y.other hk (fun z hz => by have := h.x.blocks; rcases hz with e | e | e <;> omega) (fun e => h.ap _ (Or.inr e) (Or.inl rfl)) (fun e => h.ap _ (Or.inr e) (Or.inr (Or.inl rfl))) (fun e => h.ap _ (Or.inr e) (Or.inr (Or.inr (Or.inl rfl)))) (fun e => h.ap _ (Or.inr e) (Or.inr (Or.inr (Or.inr rfl)))), h.ap⟩
theorem Two.toY {w wr w' : World} {q b p k q' b' p' k' cap : Nat} {m m' n : List Rn} (h : Two w wr q b p k q' b' p' k' cap m m') (hy : Mp w w' q' b' p' k' 512 cap n) (hk : Keep (Own3 b' p' k') wr w') : Two w w' q b p k q' b' p' k' cap m n :=
  ⟨h.x.other hk (fun z hz => by have := h.y.blocks; rcases hz with e | e | e <;> omega) (fun e => h.ap _ (Or.inl rfl) (Or.inr e)) (fun e => h.ap _ (Or.inr (Or.inl rfl)) (Or.inr e)) (fun e => h.ap _ (Or.inr (Or.inr (Or.inl rfl))) (Or.inr e)) (fun e => h.ap _ (Or.inr (Or.inr (Or.inr rfl))) (Or.inr e)), hy, h.ap⟩

theorem Keep.cell {w w' : World} (k : Keep (fun _ => False) w w') {a : Addr} {v : Value} (h : w.cell? a = some v) : w'.cell? a = some v := by
  rw [← h]
  exact World.cell?_of_block (w := w) (k.block a.block (World.block_lt_of_cell? w _ h) (fun e => e))
/-- A variable of the call's own that holds a call. -/
def Lact (w : World) (g : Nat) (f : Nat → Int) : Prop := Blk w g 4 (fun j => .int .i64 (f j))
theorem Lact.new (w : World) (f : Nat → Int) : Lact (w.alloc (.cells (actA f) 34)) w.heap.size f := blk_alloc w _ 34 4 _ (fun i hi => by rcases four hi with rfl | rfl | rfl | rfl <;> rfl)
theorem Lact.more {w w' : World} {g : Nat} {f : Nat → Int} (h : Lact w g f) (hk : Keep (fun _ => False) w w') : Lact w' g f := Blk.keep h hk (fun e => e)
theorem Lact.c {w : World} {g : Nat} {f : Nat → Int} (h : Lact w g f) : w.cell? ⟨g, 0, none⟩ = some (.int .i64 (f 0)) ∧ w.cell? ⟨g, 1, none⟩ = some (.int .i64 (f 1)) ∧ w.cell? ⟨g, 2, none⟩ = some (.int .i64 (f 2)) ∧ w.cell? ⟨g, 3, none⟩ = some (.int .i64 (f 3)) :=
  ⟨(h 0 (by omega)).1, (h 1 (by omega)).1, (h 2 (by omega)).1, (h 3 (by omega)).1⟩

set_option maxRecDepth 100000 in
set_option maxHeartbeats 2000000 in
theorem apart_any {W : World} {cap : Int} (hc : -9223372036854775808 ≤ cap ∧ cap ≤ 9223372036854775807) {a : Option Addr} {len c : Nat} (hA : Acts W a len c) {f g : Nat → Int} (hf : ∀ j, -9223372036854775808 ≤ f j ∧ f j ≤ 9223372036854775807) (hg : ∀ j, -9223372036854775808 ≤ g j ∧ g j ≤ 9223372036854775807) :
    Calls Try.prog 6 #[.int .i64 cap, .slice a len c, .agg (actA f), .agg (actA g)] W fun e w' => e = .returned (.bool true) ∧ Keep (fun _ => False) W w' := by
  have K1 : Keep (fun _ => False) W ((W.alloc (.cells (actA f) 34)).alloc (.cells (actA g) 34)) := ((Keep.refl _ _).alloc _).alloc _
  have F1 : Lact ((W.alloc (.cells (actA f) 34)).alloc (.cells (actA g) 34)) W.heap.size f := (Lact.new W f).more ((Keep.refl _ _).alloc _)
  have G1 : Lact ((W.alloc (.cells (actA f) 34)).alloc (.cells (actA g) 34)) (W.heap.size + 1) g := by
    have := Lact.new (W.alloc (.cells (actA f) 34)) g
    rwa [show (W.alloc (.cells (actA f) 34)).heap.size = W.heap.size + 1 by simp] at this
  generalize hW : (W.alloc (.cells (actA f) 34)).alloc (.cells (actA g) 34) = w1 at K1 F1 G1
  unfold actA at hW ⊢
  have haw := awake_any w1
  have hlc := hA.1
  have hlc2 := hA.2.1
  go_enter Try.func6, Try.ntmps6
  go_upto_region 3 with (go_at_call 8; refine haw.mono ?_; rintro e w2 ⟨rfl, k2⟩)
  have F2 := F1.more k2
  have G2 := G1.more k2
  obtain ⟨f0, f1, f2, f3⟩ := F2.c
  obtain ⟨g0, g1, g2, g3⟩ := G2.c
  have K2 := K1.trans k2
  clear haw hW
  have hr1 := right9 w2 cap (f 1) (f 2) hc.2
  have hr2 := right9 w2 cap (g 1) (g 2) hc.2
  by_cases c1 : (30 : Int) < len
  · clear hA
    go_wp2_with fail
    go_ret
    exact ⟨rfl, K2⟩
  cases o1 : okR cap (f 1) (f 2) with
  | false =>
    rw [o1] at hr1
    clear hA
    go_wp2_with fail
    refine hr1.mono ?_
    rintro e w3 ⟨rfl, e3⟩
    have e3 := e3.symm
    subst e3
    go_wp2_with fail
    go_ret
    exact ⟨rfl, K2⟩
  | true =>
  rw [o1] at hr1
  cases o2 : okR cap (g 1) (g 2) with
  | false =>
    rw [o2] at hr2
    clear hA
    go_wp2_with fail
    refine hr1.mono ?_
    rintro e w3 ⟨rfl, e3⟩
    have e3 := e3.symm
    subst e3
    go_wp2_with fail
    refine hr2.mono ?_
    rintro e w3 ⟨rfl, e3⟩
    have e3 := e3.symm
    subst e3
    go_wp2_with fail
    go_ret
    exact ⟨rfl, K2⟩
  | true =>
  rw [o2] at hr2
  obtain ⟨a1, a2, a3⟩ := okR_iff.1 o1
  obtain ⟨b1, b2, b3⟩ := okR_iff.1 o2
  have d1 := wrapI (x := g 1 + g 2) (by omega) (by omega)
  have d2 := wrapI (x := f 1 + f 2) (by omega) (by omega)
  by_cases c2 : f 1 < g 1 + g 2 ∧ g 1 < f 1 + f 2
  · obtain ⟨c21, c22⟩ := c2
    clear hA
    go_wp2_with fail
    refine hr1.mono ?_
    rintro e w3 ⟨rfl, e3⟩
    have e3 := e3.symm
    subst e3
    go_wp2_with fail
    refine hr2.mono ?_
    rintro e w3 ⟨rfl, e3⟩
    have e3 := e3.symm
    subst e3
    go_wp2_with fail
    go_ret
    exact ⟨rfl, K2⟩
  go_cut [60] from 16 to 60 (fun v wx => v = .bool (decide (512 < cap)) ∧ wx = w2)
  case first =>
    by_cases c21 : f 1 < g 1 + g 2
    · have c22 : ¬ g 1 < f 1 + f 2 := fun h => c2 ⟨c21, h⟩
      clear c2 hA
      go_wp2_with fail
      refine hr1.mono ?_
      rintro e w3 ⟨rfl, e3⟩
      have e3 := e3.symm
      subst e3
      go_wp2_with fail
      refine hr2.mono ?_
      rintro e w3 ⟨rfl, e3⟩
      have e3 := e3.symm
      subst e3
      go_wp2_with fail
      go_meet
      exact ⟨by rw [decide_eq_false (show ¬ g 1 < f 1 + f 2 by omega)]; rfl, rfl⟩
    · clear c2 hA
      go_wp2_with fail
      refine hr1.mono ?_
      rintro e w3 ⟨rfl, e3⟩
      have e3 := e3.symm
      subst e3
      go_wp2_with fail
      refine hr2.mono ?_
      rintro e w3 ⟨rfl, e3⟩
      have e3 := e3.symm
      subst e3
      go_wp2_with fail
      go_meet
      exact ⟨rfl, rfl⟩
  case rest =>
    obtain ⟨rfl, rfl⟩ := hcut
    clear hr1 hr2 f0 f1 f2 f3 g0 g1 g2 g3
    by_cases c3 : 512 < cap
    · rw [decide_eq_true c3]
      clear hA
      go_wp2_with fail
      go_ret
      exact ⟨rfl, K2⟩
    rw [decide_eq_false c3]
    obtain ⟨C, rfl⟩ : ∃ C : Nat, cap = (C : Int) := ⟨cap.toNat, by omega⟩
    have hC1 : 1 ≤ C := by omega
    have hC2 : C ≤ 512 := by omega
    have hI : Hid (okR (C : Int) (f 1) (f 2) = true ∧ okR (C : Int) (g 1) (g 2) = true ∧ (f 1 + f 2 ≤ g 1 ∨ g 1 + g 2 ≤ f 1)) := ⟨o1, o2, by omega⟩
    have hl30 : len ≤ 30 := by omega
    clear o1 o2 a1 a2 a3 b1 b2 b3 d1 d2 c1 c2 c3 hc
    have n1 := newMap_any (w := wc) (cap := C) (N := 512) hC1 hC2 (by omega) (by omega)
    rw [show ((512 : Nat) : Int) = 512 from rfl] at n1
    go_upto_region 6 with (go_at_call 9; refine n1.mono ?_; rintro e w3 ⟨q, b, p, k, rfl, M3⟩)
    clear n1
    have n2 := newMap_any (w := w3) (cap := C) (N := 512) hC1 hC2 (by omega) (by omega)
    rw [show ((512 : Nat) : Int) = 512 from rfl] at n2
    go_wp2_with (go_at_call 9; refine n2.mono ?_; rintro e w4 ⟨q', b', p', k', rfl, M4⟩)
    clear n2
    have T0 : Two w1 w4 q b p k q' b' p' k' C [] [] := ⟨(M3.more M4.keep).older k2, M4.older (k2.trans M3.keep), fun z hz hz' => by
      have h1 := M3.lt
      have h2 := M4.blocks
      rcases hz with e | e | e | e <;> rcases hz' with e' | e' | e' | e' <;> omega⟩
    clear M3 M4
    go_loopw [13] (fun v wx => ∃ (i : Nat) (m : List Rn), i ≤ len ∧ v = .int .i64 (i : Int) ∧ Two w1 wx q b p k q' b' p' k' C m m) (fun v _ => len - (intOf v).toNat)
    case atStart => exact ⟨0, [], by omega, rfl, T0⟩
    case round =>
      clear T0
      obtain ⟨i, m, hi, rfl, T1⟩ := hrel
      by_cases hlt : i < len
      · obtain ⟨ab, ao, rfl, h, hh, y0, y1, y2, y3⟩ := hA.at hlt
        have KX := K1.trans T1.x.keep
        have e0 := KX.cell y0
        have e1 := KX.cell y1
        have e2 := KX.cell y2
        have e3 := KX.cell y3
        have di : (i : Int) < (len : Int) := by omega
        have dw := wrapI (x := (i : Int) + 1) (by omega) (by omega)
        have hlt' : Hid (i < len) := hlt
        have h1 := one_any T1.x h hh
        unfold actA at h1
        clear hlt hI KX hA
        go_upto_region 13 with (go_at_call 23; refine h1.mono ?_; rintro e w5 ⟨rfl, M5, k5⟩)
        have T2 := T1.toX M5 k5
        have KX := K1.trans T2.x.keep
        clear h1 M5 T1 e0 e1 e2 e3 k5
        have e0 := KX.cell y0
        have e1 := KX.cell y1
        have e2 := KX.cell y2
        have e3 := KX.cell y3
        have h1 := one_any T2.y h hh
        unfold actA at h1
        clear KX y0 y1 y2 y3
        go_wp2_with (go_at_call 23; refine h1.mono ?_; rintro e w6 ⟨rfl, M6, k6⟩)
        have T3 := T2.toY M6 k6
        clear h1 M6 T2 e0 e1 e2 e3 k6
        go_roundw
        case rel => exact ⟨i + 1, _, hlt', by go_num, T3⟩
        case measure => have : i < len := hlt'; simp [intOf]; omega
      · have di : ¬ (i : Int) < (len : Int) := by omega
        have fm := T1.x.form
        have hE := oneL_comm hI.1 hI.2.1 hI.2.2 fm
        have hE' : Hid (oneL (C : Int) g (oneL (C : Int) f m) = oneL (C : Int) f (oneL (C : Int) g m)) := hE.symm
        clear hA hlt hI hE fm
        have h1 := one_any T1.x f hf
        unfold actA at h1
        obtain ⟨f0, f1, f2, f3⟩ := (F1.more T1.x.keep).c
        go_upto_region 15 with (go_at_call 23; refine h1.mono ?_; rintro e w5 ⟨rfl, M5, k5⟩)
        have T2 := T1.toX M5 k5
        clear h1 M5 k5 T1 f0 f1 f2 f3
        have h1 := one_any T2.x g hg
        unfold actA at h1
        obtain ⟨g0, g1, g2, g3⟩ := (G1.more T2.x.keep).c
        go_upto_region 16 with (go_at_call 23; refine h1.mono ?_; rintro e w6 ⟨rfl, M6, k6⟩)
        have T3 := T2.toX M6 k6
        clear h1 M6 k6 T2 g0 g1 g2 g3
        have h1 := one_any T3.y g hg
        unfold actA at h1
        obtain ⟨g0, g1, g2, g3⟩ := (G1.more T3.x.keep).c
        go_upto_region 17 with (go_at_call 23; refine h1.mono ?_; rintro e w7 ⟨rfl, M7, k7⟩)
        have T4 := T3.toY M7 k7
        clear h1 M7 k7 T3 g0 g1 g2 g3
        have h1 := one_any T4.y f hf
        unfold actA at h1
        obtain ⟨f0, f1, f2, f3⟩ := (F1.more T4.x.keep).c
        go_upto_region 18 with (go_at_call 23; refine h1.mono ?_; rintro e w8 ⟨rfl, M8, k8⟩)
        have T5 := T4.toY M8 k8
        clear h1 M8 k8 T4 f0 f1 f2 f3
        rw [show oneL (C : Int) g (oneL (C : Int) f m) = _ from hE'] at T5
        generalize oneL (C : Int) f (oneL (C : Int) g m) = n at T5
        have ln := T5.x.len
        have r1 := runs_any T5.x
        go_wp2_with fail
        refine r1.mono ?_
        rintro e w9 ⟨rfl, s9, k9⟩
        have T6 := T5.more k9
        have s9 := s9.rs (by omega)
        have r2 := runs_any T6.y
        clear r1 T5
        go_wp2_with fail
        refine r2.mono ?_
        rintro e w10 ⟨rfl, s10, k10⟩
        have s10 := s10.rs (by omega)
        have r3 := same9 (s9.more k10) s10 (by omega)
        rw [sameL_iff.2 rfl] at r3
        have HK := (K1.trans T6.x.keep).trans k10
        clear r2 T6
        go_wp2_with fail
        refine r3.mono ?_
        rintro e w11 ⟨rfl, k11⟩
        go_wp2_with fail
        go_ret
        exact ⟨rfl, HK.trans k11⟩
theorem apart_walk (W : World) {cap : Int} (hc : (Lit.int .i64 cap).wf = true) {a : Option Addr} {len c : Nat} (hA : Acts W a len c) {f g : Nat → Int} (hf : ∀ j, -9223372036854775808 ≤ f j ∧ f j ≤ 9223372036854775807) (hg : ∀ j, -9223372036854775808 ≤ g j ∧ g j ≤ 9223372036854775807) :
    Calls Try.prog 6 #[.int .i64 cap, .slice a len c, .agg (actA f), .agg (actA g)] W fun e w' => e = .returned (.bool true) ∧ Below W.heap.size W w' :=
  (apart_any (int_fits hc) hA hf hg).mono (by rintro e w' ⟨h1, h2⟩; exact ⟨h1, h2.below (Nat.le_refl _) (fun _ e => e.elim)⟩)
end Tg
end Go.Proofs.Ytobljchpphcolaa
