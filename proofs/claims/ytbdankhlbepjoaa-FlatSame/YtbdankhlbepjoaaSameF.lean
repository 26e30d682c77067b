/-
  The same calls of a map of runs and of a flat one answer the same.
-/
import Derived.Test.YtbdankhlbepjoaaAwF
namespace Go.Proofs.Ytbdankhlbepjoaa
open Go.ChangeShapes Go.WideShapes Go.ChangeAt Go.RowKit
namespace Tg

/-- A map of runs and a flat one beside it, with the same content. -/
structure Du (W wx : World) (q b p k q' B N C : Nat) (m : List Rn) (t : List Int) : Prop where
  x : Mp W wx q b p k N C m
  y : Fm B wx q' N C t
  of : Of t m
  lt : q < B ∧ b < B ∧ p < B ∧ k < B
  wB : W.heap.size ≤ B
theorem Du.more {W wx w' : World} {q b p k q' B N C : Nat} {m : List Rn} {t : List Int} (h : Du W wx q b p k q' B N C m t) (hk : Keep (fun _ => False) wx w') : Du W w' q b p k q' B N C m t := ⟨h.x.more hk, h.y.more hk, h.of, h.lt, h.wB⟩
theorem Du.runs {W wx : World} {q b p k q' B N C : Nat} {m : List Rn} {t : List Int} (h : Du W wx q b p k q' B N C m t) : refR t C = m := by
  rw [← h.y.tl]; exact h.of.runs.symm
theorem own_lt {q b p k B : Nat} (h : q < B ∧ b < B ∧ p < B ∧ k < B) : ∀ x, Own3 b p k x → x < B := by
  rintro x (e | e | e) <;> omega
/-- The map of runs behind a change of the flat one. -/
theorem Du.flat {W wx w1 w2 : World} {q b p k q' B N C : Nat} {m m' : List Rn} {t : List Int} (h : Du W wx q b p k q' B N C m t) (x : Mp W w1 q b p k N C m') (k2 : Keep (fun x => x = q') w1 w2) : Mp W w2 q b p k N C m' := by
  have h1 := h.y.bq
  have h2 := h.lt
  have h3 := h.wB
  exact x.other k2 (fun z e => by omega) (by omega) (by omega) (by omega) (by omega)

/-- What both answer of a change, and that they go on alike. -/
def Both (W wx : World) (q b p k q' B N C : Nat) (f : FuncId) (vs : Array Value) (f' : FuncId) (vs' : Array Value) (r : Int) : Prop :=
  Calls Try.prog f vs wx fun e w1 => e = .returned (.int .i64 r) ∧ Keep (Own3 b p k) wx w1 ∧
    Calls Try.prog f' vs' w1 fun e w2 => e = .returned (.int .i64 r) ∧ Keep (fun x => x = q') w1 w2 ∧ ∃ m t, Du W w2 q b p k q' B N C m t
theorem both_of {W wx : World} {q b p k q' B N C : Nat} {m m' : List Rn} {t u : List Int} {f f' : FuncId} {vs vs' : Array Value} (h : Du W wx q b p k q' B N C m t) (ho : Of u m') (hul : u.length = C)
    (hx : Calls Try.prog f vs wx (Did W wx q b p k N C m')) (hy : ∀ w1, Fm B w1 q' N C t → Calls Try.prog f' vs' w1 (Fid B w1 q' N C u)) : ∃ r, Both W wx q b p k q' B N C f vs f' vs' r := by
  have hE : refR u C = m' := by rw [← hul]; exact ho.runs.symm
  by_cases c : m'.length ≤ N
  · refine ⟨0, hx.mono ?_⟩
    intro e w1 hD
    obtain ⟨he, M1, k1⟩ := hD.yes c
    refine ⟨he, k1, (hy w1 (h.y.other k1 (own_lt h.lt))).mono ?_⟩
    rintro e w2 (⟨-, he2, F2, k2⟩ | ⟨hf, -⟩)
    · exact ⟨he2, k2, m', u, h.flat M1 k2, F2, ho, h.lt, h.wB⟩
    · rw [hE] at hf; omega
  · refine ⟨5, hx.mono ?_⟩
    intro e w1 hD
    obtain ⟨he, k1⟩ := hD.full (by omega)
    refine ⟨he, k1.mono (fun _ _ e => e.elim), (hy w1 (h.y.more k1)).mono ?_⟩
    rintro e w2 (⟨hf, -⟩ | ⟨-, he2, k2⟩)
    · rw [hE] at hf; omega
    · exact ⟨he2, k2.mono (fun _ _ e => e.elim), m, t, (h.more k1).more k2⟩
theorem Du.set {W wx : World} {q b p k q' B N C : Nat} {m : List Rn} {t : List Int} (h : Du W wx q b p k q' B N C m t) (f : Nat → Int) (hf : ∀ j, -9223372036854775808 ≤ f j ∧ f j ≤ 9223372036854775807) :
    ∃ r, Both W wx q b p k q' B N C 16 #[.pointer (some ⟨q, 0, none⟩), .int .i64 (f 1), .int .i64 (f 2), .int .i64 (f 3)] 9 #[.pointer (some ⟨q', 0, none⟩), .int .i64 (f 1), .int .i64 (f 2), .int .i64 (f 3)] r := by
  have h5 := h.y.tl
  have hc2 := h.y.cap2
  by_cases c : okR (C : Int) (f 1) (f 2) = true ∧ 0 ≤ f 3 ∧ f 3 ≤ 1048576
  · obtain ⟨c1, c2, c3⟩ := okR_iff.1 c.1
    obtain ⟨L, eL⟩ : ∃ L : Nat, f 1 = (L : Int) := ⟨(f 1).toNat, by omega⟩
    obtain ⟨M, eM⟩ : ∃ M : Nat, f 2 = (M : Int) := ⟨(f 2).toNat, by omega⟩
    have hx := set_map h.x (r := ⟨f 1, f 2, f 3⟩) c2 c1 (by simp only; omega) c.2.1 c.2.2
    have ho := h.of.set (lba := L) (n := M) (phys := f 3) (by omega) c.2.1 (by omega)
    rw [← eL, ← eM] at ho
    refine both_of h ho (by rw [putN_len]; exact h5) hx (fun w1 F1 => ?_)
    rw [eL, eM]
    exact fset F1 (by omega) (by omega) c.2.1 c.2.2
  · have hno : okR (C : Int) (f 1) (f 2) = false ∨ f 3 < 0 ∨ 1048576 < f 3 := by
      by_cases c1 : okR (C : Int) (f 1) (f 2) = true
      · right
        by_cases c2 : f 3 < 0
        · exact Or.inl c2
        · right
          by_cases c3 : f 3 ≤ 1048576
          · exact absurd ⟨c1, by omega, c3⟩ c
          · omega
      · left; simpa using c1
    refine ⟨1, (set_no h.x (hf 1).2 hno).mono ?_⟩
    rintro e w1 ⟨rfl, k1⟩
    refine ⟨rfl, k1.mono (fun _ _ e => e.elim), (fset_no (h.y.more k1) (hf 1).2 hno).mono ?_⟩
    rintro e w2 ⟨rfl, rfl⟩
    exact ⟨rfl, Keep.refl _ _, m, t, h.more k1⟩
theorem Du.clear {W wx : World} {q b p k q' B N C : Nat} {m : List Rn} {t : List Int} (h : Du W wx q b p k q' B N C m t) (f : Nat → Int) (hf : ∀ j, -9223372036854775808 ≤ f j ∧ f j ≤ 9223372036854775807) :
    ∃ r, Both W wx q b p k q' B N C 17 #[.pointer (some ⟨q, 0, none⟩), .int .i64 (f 1), .int .i64 (f 2)] 10 #[.pointer (some ⟨q', 0, none⟩), .int .i64 (f 1), .int .i64 (f 2)] r := by
  have h5 := h.y.tl
  have hc2 := h.y.cap2
  by_cases c : okR (C : Int) (f 1) (f 2) = true
  · obtain ⟨c1, c2, c3⟩ := okR_iff.1 c
    obtain ⟨L, eL⟩ : ∃ L : Nat, f 1 = (L : Int) := ⟨(f 1).toNat, by omega⟩
    obtain ⟨M, eM⟩ : ∃ M : Nat, f 2 = (M : Int) := ⟨(f 2).toNat, by omega⟩
    have hx := clear_map h.x c2 c1 (by omega)
    have ho := h.of.clear (lba := L) (n := M) (phys := -1) (by omega) (by omega) (by omega)
    rw [← eL, ← eM] at ho
    refine both_of h ho (by rw [putN_len]; exact h5) hx (fun w1 F1 => ?_)
    rw [eL, eM]
    exact fclear F1 (by omega) (by omega)
  · have hno : okR (C : Int) (f 1) (f 2) = false := by simpa using c
    refine ⟨1, (clear_no h.x (hf 1).2 hno).mono ?_⟩
    rintro e w1 ⟨rfl, k1⟩
    refine ⟨rfl, k1.mono (fun _ _ e => e.elim), (fclear_no (h.y.more k1) (hf 1).2 hno).mono ?_⟩
    rintro e w2 ⟨rfl, rfl⟩
    exact ⟨rfl, Keep.refl _ _, m, t, h.more k1⟩

/-- A range's answer: these pieces, this code. -/
def Ans (ps : List Rn) (r : Int) (w : World) (e : Ending) (w' : World) : Prop := ∃ pa pc, e = .returned (.tuple #[.slice pa ps.length pc, .int .i64 r]) ∧ Keep (fun _ => False) w w' ∧ Rs w' pa pc ps
theorem Du.ranges {W wx : World} {q b p k q' B N C : Nat} {m : List Rn} {t : List Int} (h : Du W wx q b p k q' B N C m t) {lba : Int} (n : Int) (hl : lba ≤ 9223372036854775807) :
    ∃ ps r, ps.length ≤ 512 ∧ (∀ w', Keep (fun _ => False) wx w' → Calls Try.prog 18 #[.pointer (some ⟨q, 0, none⟩), .int .i64 lba, .int .i64 n] w' (Ans ps r w')) ∧
      ∀ w', Keep (fun _ => False) wx w' → Calls Try.prog 19 #[.pointer (some ⟨q', 0, none⟩), .int .i64 lba, .int .i64 n] w' (Ans ps r w') := by
  have h5 := h.y.tl
  have hc2 := h.y.cap2
  cases c : okR (C : Int) lba n with
  | true =>
    obtain ⟨c1, c2, c3⟩ := okR_iff.1 c
    refine ⟨refP t lba.toNat n.toNat, 0, by have := refP_len t lba.toNat n.toNat; omega, fun w' k1 => ?_, fun w' k1 => ?_⟩
    · refine (range_any (h.x.more k1) c2 c1 (by omega)).mono ?_
      rintro e w2 ⟨pa, pc, ps, rfl, hcut, R, -⟩
      have hps : ps = refP t lba.toNat n.toNat := h.of.cut (lba := lba.toNat) (n := n.toNat) (by omega) (by
        rw [show ((lba.toNat : Nat) : Int) = lba by omega, show ((n.toNat : Nat) : Int) = n by omega]; exact hcut)
      subst hps
      exact ⟨pa, pc, rfl, R.keep, R.rs⟩
    · refine (frange (h.y.more k1) c).mono ?_
      rintro e w2 ⟨pa, pc, rfl, R⟩
      exact ⟨pa, pc, rfl, R.keep, R.rs⟩
  | false =>
    refine ⟨[], 1, by simp, fun w' k1 => ?_, fun w' k1 => ?_⟩
    · refine (range_no (h.x.more k1) hl c).mono ?_
      rintro e w2 ⟨rfl, k2⟩
      exact ⟨none, 0, rfl, k2, by simp, by omega, Or.inl rfl⟩
    · refine (frange_no (h.y.more k1) hl c).mono ?_
      rintro e w2 ⟨rfl, rfl⟩
      exact ⟨none, 0, rfl, Keep.refl _ _, by simp, by omega, Or.inl rfl⟩
theorem Du.gets {W wx : World} {q b p k q' B N C : Nat} {m : List Rn} {t : List Int} (h : Du W wx q b p k q' B N C m t) {lba : Int} (hl : lba ≤ 9223372036854775807) :
    ∃ v o, (∀ w', Keep (fun _ => False) wx w' → Calls Try.prog 21 #[.pointer (some ⟨q, 0, none⟩), .int .i64 lba] w' fun e w2 => e = .returned (.tuple #[.int .i64 v, .bool o]) ∧ Keep (fun _ => False) w' w2) ∧
      ∀ w', Keep (fun _ => False) wx w' → Calls Try.prog 22 #[.pointer (some ⟨q', 0, none⟩), .int .i64 lba] w' fun e w2 => e = .returned (.tuple #[.int .i64 v, .bool o]) ∧ w2 = w' := by
  refine ⟨(entry t lba).getD 0, (entry t lba).isSome, fun w' k1 => ?_, fun w' k1 => fget (h.y.more k1) lba⟩
  have := get_map (h.x.more k1) lba hl
  rw [h.of.2 lba] at this
  exact this
theorem Du.lists {W wx : World} {q b p k q' B N C : Nat} {m : List Rn} {t : List Int} (h : Du W wx q b p k q' B N C m t) :
    (∀ w', Keep (fun _ => False) wx w' → Calls Try.prog 24 #[.pointer (some ⟨q, 0, none⟩)] w' fun e w2 => ∃ a c, e = .returned (.slice a m.length c) ∧ Keep (fun _ => False) w' w2 ∧ Rs w2 a c m) ∧
      ∀ w', Keep (fun _ => False) wx w' → Calls Try.prog 25 #[.pointer (some ⟨q', 0, none⟩)] w' fun e w2 => ∃ a c, e = .returned (.slice a m.length c) ∧ Keep (fun _ => False) w' w2 ∧ Rs w2 a c m := by
  refine ⟨fun w' k1 => ?_, fun w' k1 => ?_⟩
  · refine (runs_any (h.x.more k1)).mono ?_
    rintro e w2 ⟨rfl, R, k2⟩
    exact ⟨_, _, rfl, k2, R.rs (by have := h.x.len; have := h.x.N2; omega)⟩
  · have := fruns (h.y.more k1)
    rw [h.runs] at this
    refine this.mono ?_
    rintro e w2 ⟨a, c, rfl, R⟩
    exact ⟨_, _, rfl, R.keep, R.rs⟩
theorem Du.counts {W wx : World} {q b p k q' B N C : Nat} {m : List Rn} {t : List Int} (h : Du W wx q b p k q' B N C m t) :
    (∀ w', Keep (fun _ => False) wx w' → Calls Try.prog 26 #[.pointer (some ⟨q, 0, none⟩)] w' fun e w2 => e = .returned (.int .i64 (m.length : Int)) ∧ w2 = w') ∧
      ∀ w', Keep (fun _ => False) wx w' → Calls Try.prog 11 #[.pointer (some ⟨q', 0, none⟩)] w' fun e w2 => e = .returned (.int .i64 (m.length : Int)) ∧ Keep (fun _ => False) w' w2 := by
  refine ⟨fun w' k1 => count_any (h.x.more k1), fun w' k1 => ?_⟩
  have := fcount (h.y.more k1)
  rw [h.runs] at this
  exact this

set_option maxRecDepth 100000 in
set_option maxHeartbeats 4000000 in
theorem same_any {W : World} {cap most : Int} {a : Option Addr} {len c : Nat} (hA : Acts W a len c) {lba : Int} (hlb : -9223372036854775808 ≤ lba ∧ lba ≤ 9223372036854775807) (n : Int) :
    Calls Try.prog 5 #[.int .i64 cap, .int .i64 most, .slice a len c, .int .i64 lba, .int .i64 n] W fun e w' => e = .returned (.bool true) ∧ Keep (fun _ => False) W w' := by
  have haw := awake_any W
  have hlc := hA.1
  have hlc2 := hA.2.1
  by_cases hcap : cap < 1 ∨ 512 < cap ∨ most < 1 ∨ 512 < most
  · have hn := fun w => newMap_no (w := w) (c := cap) (n := most) hcap
    have hn2 := fun w => newF_no (w := w) (c := cap) (n := most) hcap
    clear hA hcap
    go_enter Try.func5, Try.ntmps5
    go_wp2_with (first | (go_at_call 7; refine haw.mono ?_; rintro e w2 ⟨rfl, k2⟩) | (go_at_call 15; refine (hn _).mono ?_; rintro e w3 ⟨rfl, k3⟩) | (go_at_call 8; refine (hn2 _).mono ?_; rintro e w4 ⟨rfl, e4⟩; have e4 := e4.symm; subst e4))
    go_ret
    exact ⟨rfl, k2.trans k3⟩
  obtain ⟨C, rfl⟩ : ∃ C : Nat, cap = (C : Int) := ⟨cap.toNat, by omega⟩
  obtain ⟨N, rfl⟩ : ∃ N : Nat, most = (N : Int) := ⟨most.toNat, by omega⟩
  have hC1 : 1 ≤ C := by omega
  have hC2 : C ≤ 512 := by omega
  have hN1 : 1 ≤ N := by omega
  have hN2 : N ≤ 512 := by omega
  have n1 := fun w => newMap_any (w := w) (cap := C) (N := N) hC1 hC2 hN1 hN2
  have n2 := fun w => newF_any (w := w) (C := C) (N := N) hC1 hC2 hN1 hN2
  clear hcap
  go_enter Try.func5, Try.ntmps5
  go_upto_region 5 with (first | (go_at_call 7; refine haw.mono ?_; rintro e w2 ⟨rfl, k2⟩) | (go_at_call 15; refine (n1 _).mono ?_; rintro e w3 ⟨q, b, p, k, rfl, M3⟩) | (go_at_call 8; refine (n2 _).mono ?_; rintro e w4 ⟨q', rfl, F4, k4⟩))
  clear haw n1 n2
  have D4 : Du W w4 q b p k q' w3.heap.size N C [] (List.replicate C (-1)) := ⟨(M3.older k2).more k4, F4, of_nil C, M3.lt, (M3.older k2).keep.size⟩
  generalize w3.heap.size = B at D4
  clear M3 F4 k4
  by_cases c1 : (60 : Int) < len
  · have HK := D4.x.keep
    clear hA D4
    go_wp2_with fail
    go_ret
    exact ⟨rfl, HK⟩
  have hl60 : len ≤ 60 := by omega
  go_wp2_with fail
  clear c1
  go_loopw [15] (fun v wx => ∃ (i : Nat) (m : List Rn) (t : List Int), i ≤ len ∧ v = .int .i64 (i : Int) ∧ Du W wx q b p k q' B N C m t) (fun v _ => len - (intOf v).toNat)
  case atStart => exact ⟨0, _, _, by omega, rfl, D4⟩
  case round =>
    clear D4
    obtain ⟨i, m, t, hi, rfl, D1⟩ := hrel
    by_cases hlt : i < len
    · obtain ⟨ab, ao, rfl, h, hh, x0, x1, x2, x3⟩ := hA.at hlt
      have KX := D1.x.keep
      have e0 := KX.cell x0
      have e1 := KX.cell x1
      have e2 := KX.cell x2
      have e3 := KX.cell x3
      have di : (i : Int) < (len : Int) := by omega
      have dw := wrapI (x := (i : Int) + 1) (by omega) (by omega)
      have hlt' : Hid (i < len) := hlt
      have K2 : Keep (fun _ => False) wr (wr.alloc (.cells (actA h) 34)) := (Keep.refl _ _).alloc _
      have L2 := Lact.new wr h
      have D2 := D1.more K2
      have oG : ¬ wr.heap.size = q' := by have := D1.y.lt; omega
      have oH : ¬ Own3 b p k wr.heap.size := D1.x.out (Nat.le_refl _)
      unfold actA at K2 L2 D2
      clear hlt KX hA x0 x1 x2 x3 D1
      go_upto_region 12 with fail
      generalize wr.alloc (.cells #[.int .i64 (h 0), .int .i64 (h 1), .int .i64 (h 2), .int .i64 (h 3)] 34) = w2 at K2 L2 D2 ⊢
      generalize wr.heap.size = g at L2 oG oH ⊢
      clear e0 e1 e2 e3
      obtain ⟨f0, f1, f2, f3⟩ := L2.c
      by_cases c0 : h 0 = 0
      · have cb : (h 0 == 0) = true := by simp [c0]
        clear c0
        go_upto_region 17 with fail
        have D3 : Du W w2.drew q b p k q' B N C m t := D2.more ((Keep.refl _ _).drew)
        have L3 : Lact w2.drew g h := L2.more ((Keep.refl _ _).drew)
        obtain ⟨r, hB⟩ := D3.set h hh
        unfold Both at hB
        have hS : ∀ w', Lact w' g h → w'.cell? ⟨g, 1, none⟩ = some (.int .i64 (h 1)) ∧ w'.cell? ⟨g, 2, none⟩ = some (.int .i64 (h 2)) ∧ w'.cell? ⟨g, 3, none⟩ = some (.int .i64 (h 3)) := fun w' L => ⟨L.c.2.1, L.c.2.2.1, L.c.2.2.2⟩
        clear D2 D3 L2 f0 f1 f2 f3
        go_region_held3 (fun w' => w'.cell? ⟨g, 1, none⟩ = some (.int .i64 (h 1)) ∧ w'.cell? ⟨g, 2, none⟩ = some (.int .i64 (h 2)) ∧ w'.cell? ⟨g, 3, none⟩ = some (.int .i64 (h 3))) (first | exact hS _ L3 | exact hS _ L4 | exact hS _ L5) ((first | (go_at_call 16; refine hB.mono ?_; rintro e w4 ⟨rfl, k4, hB2⟩; have L4 : Lact w4 g h := Blk.keep L3 k4 oH) | (go_at_call 9; refine hB2.mono ?_; rintro e w5 ⟨rfl, k5, m', t', D5⟩; have L5 : Lact w5 g h := Blk.keep L4 k5 oG)))
        clear hB hB2 hS k4 k5 L3 L4
        obtain ⟨ps, r, hpl, ra, rb⟩ := D5.ranges n hlb.2
        unfold Ans at ra rb
        obtain ⟨v, o, ga, gb⟩ := D5.gets (lba := h 1) (hh 1).2
        obtain ⟨la, lb⟩ := D5.lists
        obtain ⟨na, nb⟩ := D5.counts
        have hml := D5.x.len
        go_upto_region 21 with (go_at_call 18; refine (ra _ (Keep.refl _ _)).mono ?_; rintro e w6 ⟨pa, pc, rfl, k6, s6⟩)
        go_upto_region 22 with (go_at_call 19; refine (rb _ k6).mono ?_; rintro e w7 ⟨pb, pd, rfl, k7, s7⟩)
        have K7 := k6.trans k7
        have z7 := s6.more k7
        obtain ⟨f0, f1, f2, f3⟩ := (L5.more K7).c
        clear ra rb k6 k7 s6
        go_upto_region 23 with (go_at_call 21; refine (ga _ K7).mono ?_; rintro e w8 ⟨rfl, k8⟩)
        have K8 := K7.trans k8
        have s8 := s7.more k8
        have z8 := z7.more k8
        clear f0 f1 f2 f3 ga K7 k8 s7 z7
        obtain ⟨f0, f1, f2, f3⟩ := (L5.more K8).c
        go_upto_region 24 with (go_at_call 22; refine (gb _ K8).mono ?_; rintro e wz ⟨rfl, ez⟩; have ez := ez.symm; subst ez)
        clear f0 f1 f2 f3 gb L5
        have hpc := pieces9 z8 s8 (by omega)
        rw [sameL_iff.2 rfl] at hpc
        have on : (o != o) = false := by simp
        go_wp2_with fail
        refine hpc.mono ?_
        rintro e w9 ⟨rfl, k9⟩
        have K9 := K8.trans k9
        clear hpc s8 z8 K8 k9
        go_wp2_with fail
        refine (la _ K9).mono ?_
        rintro e w10 ⟨a10, c10, rfl, k10, s10⟩
        have K10 := K9.trans k10
        clear la K9 k10
        go_wp2_with fail
        refine (lb _ K10).mono ?_
        rintro e w11 ⟨a11, c11, rfl, k11, s11⟩
        have K11 := K10.trans k11
        have hsm := same9 (s10.more k11) s11 (by omega)
        rw [sameL_iff.2 rfl] at hsm
        clear lb K10 k11 s10 s11
        go_wp2_with fail
        refine hsm.mono ?_
        rintro e w12 ⟨rfl, k12⟩
        have K12 := K11.trans k12
        clear hsm K11 k12
        go_wp2_with fail
        refine (na _ K12).mono ?_
        rintro e wz ⟨rfl, ez⟩
        have ez := ez.symm
        subst ez
        go_wp2_with fail
        refine (nb _ K12).mono ?_
        rintro e w14 ⟨rfl, k14⟩
        have D14 := D5.more (K12.trans k14)
        clear na nb K12 k14 D5
        go_wp2_with fail
        go_roundw
        case rel => exact ⟨i + 1, _, _, hlt', by go_num, D14⟩
        case measure => have : i < len := hlt'; simp [intOf]; omega
      · have cb : (h 0 == 0) = false := by simp [c0]
        by_cases c1 : h 0 = 1
        · have cb1 : (h 0 == 1) = true := by simp [c1]
          clear c0 c1
          go_upto_region 19 with fail
          have D3 : Du W w2.drew q b p k q' B N C m t := D2.more ((Keep.refl _ _).drew)
          have L3 : Lact w2.drew g h := L2.more ((Keep.refl _ _).drew)
          obtain ⟨r, hB⟩ := D3.clear h hh
          unfold Both at hB
          have hS : ∀ w', Lact w' g h → w'.cell? ⟨g, 1, none⟩ = some (.int .i64 (h 1)) ∧ w'.cell? ⟨g, 2, none⟩ = some (.int .i64 (h 2)) := fun w' L => ⟨L.c.2.1, L.c.2.2.1⟩
          clear D2 D3 L2 f0 f1 f2 f3
          go_region_held3 (fun w' => w'.cell? ⟨g, 1, none⟩ = some (.int .i64 (h 1)) ∧ w'.cell? ⟨g, 2, none⟩ = some (.int .i64 (h 2))) (first | exact hS _ L3 | exact hS _ L4 | exact hS _ L5) ((first | (go_at_call 17; refine hB.mono ?_; rintro e w4 ⟨rfl, k4, hB2⟩; have L4 : Lact w4 g h := Blk.keep L3 k4 oH) | (go_at_call 10; refine hB2.mono ?_; rintro e w5 ⟨rfl, k5, m', t', D5⟩; have L5 : Lact w5 g h := Blk.keep L4 k5 oG)))
          clear hB hB2 hS k4 k5 L3 L4
          obtain ⟨ps, r, hpl, ra, rb⟩ := D5.ranges n hlb.2
          unfold Ans at ra rb
          obtain ⟨v, o, ga, gb⟩ := D5.gets (lba := h 1) (hh 1).2
          obtain ⟨la, lb⟩ := D5.lists
          obtain ⟨na, nb⟩ := D5.counts
          have hml := D5.x.len
          go_upto_region 21 with (go_at_call 18; refine (ra _ (Keep.refl _ _)).mono ?_; rintro e w6 ⟨pa, pc, rfl, k6, s6⟩)
          go_upto_region 22 with (go_at_call 19; refine (rb _ k6).mono ?_; rintro e w7 ⟨pb, pd, rfl, k7, s7⟩)
          have K7 := k6.trans k7
          have z7 := s6.more k7
          obtain ⟨f0, f1, f2, f3⟩ := (L5.more K7).c
          clear ra rb k6 k7 s6
          go_upto_region 23 with (go_at_call 21; refine (ga _ K7).mono ?_; rintro e w8 ⟨rfl, k8⟩)
          have K8 := K7.trans k8
          have s8 := s7.more k8
          have z8 := z7.more k8
          clear f0 f1 f2 f3 ga K7 k8 s7 z7
          obtain ⟨f0, f1, f2, f3⟩ := (L5.more K8).c
          go_upto_region 24 with (go_at_call 22; refine (gb _ K8).mono ?_; rintro e wz ⟨rfl, ez⟩; have ez := ez.symm; subst ez)
          clear f0 f1 f2 f3 gb L5
          have hpc := pieces9 z8 s8 (by omega)
          rw [sameL_iff.2 rfl] at hpc
          have on : (o != o) = false := by simp
          go_wp2_with fail
          refine hpc.mono ?_
          rintro e w9 ⟨rfl, k9⟩
          have K9 := K8.trans k9
          clear hpc s8 z8 K8 k9
          go_wp2_with fail
          refine (la _ K9).mono ?_
          rintro e w10 ⟨a10, c10, rfl, k10, s10⟩
          have K10 := K9.trans k10
          clear la K9 k10
          go_wp2_with fail
          refine (lb _ K10).mono ?_
          rintro e w11 ⟨a11, c11, rfl, k11, s11⟩
          have K11 := K10.trans k11
          have hsm := same9 (s10.more k11) s11 (by omega)
          rw [sameL_iff.2 rfl] at hsm
          clear lb K10 k11 s10 s11
          go_wp2_with fail
          refine hsm.mono ?_
          rintro e w12 ⟨rfl, k12⟩
          have K12 := K11.trans k12
          clear hsm K11 k12
          go_wp2_with fail
          refine (na _ K12).mono ?_
          rintro e wz ⟨rfl, ez⟩
          have ez := ez.symm
          subst ez
          go_wp2_with fail
          refine (nb _ K12).mono ?_
          rintro e w14 ⟨rfl, k14⟩
          have D14 := D5.more (K12.trans k14)
          clear na nb K12 k14 D5
          go_wp2_with fail
          go_roundw
          case rel => exact ⟨i + 1, _, _, hlt', by go_num, D14⟩
          case measure => have : i < len := hlt'; simp [intOf]; omega
        · have cb1 : (h 0 == 1) = false := by simp [c1]
          clear c0 c1
          obtain ⟨ps, r, hpl, ra, rb⟩ := D2.ranges (h 2) (hh 1).2
          unfold Ans at ra rb
          go_upto_region 14 with (go_at_call 18; refine (ra _ (Keep.refl _ _)).mono ?_; rintro e w3 ⟨pa, pc, rfl, k3, s3⟩)
          have L3 := L2.more k3
          clear f0 f1 f2 f3 ra
          obtain ⟨f0, f1, f2, f3⟩ := L3.c
          go_upto_region 15 with (go_at_call 19; refine (rb _ k3).mono ?_; rintro e w4 ⟨pb, pd, rfl, k4, s4⟩)
          clear f0 f1 f2 f3 rb
          have hpc := pieces9 (s3.more k4) s4 (by omega)
          rw [sameL_iff.2 rfl] at hpc
          go_upto_region 20 with (go_at_call 20; refine hpc.mono ?_; rintro e w5 ⟨rfl, k5⟩)
          have L5 := (L3.more k4).more k5
          have D5 := ((D2.more k3).more k4).more k5
          clear hpc s3 s4 k3 k4 k5 L2 L3 D2
          obtain ⟨ps, r, hpl, ra, rb⟩ := D5.ranges n hlb.2
          unfold Ans at ra rb
          obtain ⟨v, o, ga, gb⟩ := D5.gets (lba := h 1) (hh 1).2
          obtain ⟨la, lb⟩ := D5.lists
          obtain ⟨na, nb⟩ := D5.counts
          have hml := D5.x.len
          go_upto_region 21 with (go_at_call 18; refine (ra _ (Keep.refl _ _)).mono ?_; rintro e w6 ⟨pa, pc, rfl, k6, s6⟩)
          go_upto_region 22 with (go_at_call 19; refine (rb _ k6).mono ?_; rintro e w7 ⟨pb, pd, rfl, k7, s7⟩)
          have K7 := k6.trans k7
          have z7 := s6.more k7
          obtain ⟨f0, f1, f2, f3⟩ := (L5.more K7).c
          clear ra rb k6 k7 s6
          go_upto_region 23 with (go_at_call 21; refine (ga _ K7).mono ?_; rintro e w8 ⟨rfl, k8⟩)
          have K8 := K7.trans k8
          have s8 := s7.more k8
          have z8 := z7.more k8
          clear f0 f1 f2 f3 ga K7 k8 s7 z7
          obtain ⟨f0, f1, f2, f3⟩ := (L5.more K8).c
          go_upto_region 24 with (go_at_call 22; refine (gb _ K8).mono ?_; rintro e wz ⟨rfl, ez⟩; have ez := ez.symm; subst ez)
          clear f0 f1 f2 f3 gb L5
          have hpc := pieces9 z8 s8 (by omega)
          rw [sameL_iff.2 rfl] at hpc
          have on : (o != o) = false := by simp
          go_wp2_with fail
          refine hpc.mono ?_
          rintro e w9 ⟨rfl, k9⟩
          have K9 := K8.trans k9
          clear hpc s8 z8 K8 k9
          go_wp2_with fail
          refine (la _ K9).mono ?_
          rintro e w10 ⟨a10, c10, rfl, k10, s10⟩
          have K10 := K9.trans k10
          clear la K9 k10
          go_wp2_with fail
          refine (lb _ K10).mono ?_
          rintro e w11 ⟨a11, c11, rfl, k11, s11⟩
          have K11 := K10.trans k11
          have hsm := same9 (s10.more k11) s11 (by omega)
          rw [sameL_iff.2 rfl] at hsm
          clear lb K10 k11 s10 s11
          go_wp2_with fail
          refine hsm.mono ?_
          rintro e w12 ⟨rfl, k12⟩
          have K12 := K11.trans k12
          clear hsm K11 k12
          go_wp2_with fail
          refine (na _ K12).mono ?_
          rintro e wz ⟨rfl, ez⟩
          have ez := ez.symm
          subst ez
          go_wp2_with fail
          refine (nb _ K12).mono ?_
          rintro e w14 ⟨rfl, k14⟩
          have D14 := D5.more (K12.trans k14)
          clear na nb K12 k14 D5
          go_wp2_with fail
          go_roundw
          case rel => exact ⟨i + 1, _, _, hlt', by go_num, D14⟩
          case measure => have : i < len := hlt'; simp [intOf]; omega
    · have di : ¬ (i : Int) < (len : Int) := by omega
      have HK := D1.x.keep
      clear hA hlt D1
      go_wp2_with fail
      go_ret
      exact ⟨rfl, HK⟩
theorem same_walk (W : World) (cap most : Int) {a : Option Addr} {len c : Nat} (hA : Acts W a len c) {lba : Int} (hl : (Lit.int .i64 lba).wf = true) (n : Int) :
    Calls Try.prog 5 #[.int .i64 cap, .int .i64 most, .slice a len c, .int .i64 lba, .int .i64 n] W fun e w' => e = .returned (.bool true) ∧ Below W.heap.size W w' :=
  (same_any hA (int_fits hl) n).mono (by rintro e w' ⟨h1, h2⟩; exact ⟨h1, h2.below (Nat.le_refl _) (fun _ e => e.elim)⟩)
end Tg
end Go.Proofs.Ytbdankhlbepjoaa
