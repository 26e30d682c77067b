/-
  The awakening call of the statements: it returns true, and whatever was in memory is as it was.
-/
import Derived.Test.YtbdankhlbepjoaaFlatC
namespace Go.Proofs.Ytbdankhlbepjoaa
open Go.ChangeShapes Go.WideShapes Go.ChangeAt Go.RowKit
namespace Tg

/-- A flat map made since w. -/
structure Mf (w wr : World) (q N C : Nat) (t : List Int) : Prop where
  fm : Fm w.heap.size wr q N C t
  keep : Keep (fun _ => False) w wr
theorem Mf.more {w wr w' : World} {q N C : Nat} {t : List Int} (h : Mf w wr q N C t) (k : Keep (fun _ => False) wr w') : Mf w w' q N C t := ⟨h.fm.more k, h.keep.trans k⟩
theorem Mf.to {w wr w' : World} {q N C : Nat} {t u : List Int} (h : Mf w wr q N C t) (f : Fm w.heap.size w' q N C u) (k : Keep (fun x => x = q) wr w') : Mf w w' q N C u :=
  ⟨f, h.keep.next k (fun x hx e => by have := h.fm.bq; omega)⟩
theorem Mf.older {w w0 wr : World} {q N C : Nat} {t : List Int} (h : Mf w wr q N C t) (k : Keep (fun _ => False) w0 w) : Mf w0 wr q N C t := by
  obtain ⟨a, c, hb, hi, hg⟩ := h.fm.ex
  have hs := k.size
  exact ⟨⟨⟨a, c, hb, hi, fun g e => ⟨by have := (hg g e).1; omega, (hg g e).2⟩⟩, by have := h.fm.bq; omega, h.fm.tl, h.fm.tab, h.fm.cap1, h.fm.cap2, h.fm.N1, h.fm.N2, h.fm.len⟩, k.trans h.keep⟩
theorem fyes {w wa : World} {q N C : Nat} {t u u' : List Int} {f : FuncId} {vs : Array Value} (M : Mf w wa q N C t) (h : Calls Try.prog f vs wa (Fid w.heap.size wa q N C u')) (e : u' = u) (hl : (refR u C).length ≤ N) :
    Calls Try.prog f vs wa fun e w' => e = .returned (.int .i64 0) ∧ Mf w w' q N C u ∧ Keep (fun x => x = q) wa w' := by
  subst e
  refine h.mono ?_
  rintro e w' (⟨h1, h2, h3, h4⟩ | ⟨h1, -⟩)
  · exact ⟨h2, M.to h3 h4, h4⟩
  · omega
theorem ffull {B : Nat} {wa : World} {q N C : Nat} {u : List Int} {f : FuncId} {vs : Array Value} (h : Calls Try.prog f vs wa (Fid B wa q N C u)) (hl : N < (refR u C).length) :
    Calls Try.prog f vs wa fun e w' => e = .returned (.int .i64 5) ∧ Keep (fun _ => False) wa w' := by
  refine h.mono ?_
  rintro e w' (⟨h1, -⟩ | ⟨h1, h2, h3⟩)
  · omega
  · exact ⟨h2, h3⟩

/-- The maps of the examples. -/
def y0 : List Int := List.replicate 10 (-1)
def y1 : List Int := [100, 101, 102, 103, -1, -1, -1, -1, -1, -1]
def y2 : List Int := [100, 101, 102, 103, 104, 105, -1, -1, -1, -1]
def y3 : List Int := [100, 101, 50, 103, 104, 105, -1, -1, -1, -1]
def y4 : List Int := [-1, -1, 50, 103, 104, 105, -1, -1, -1, -1]
theorem y1_is : putN y0 0 100 4 = y1 := by kernel_rfl
theorem y2_is : putN y1 4 104 2 = y2 := by kernel_rfl
theorem y3_is : putN y2 2 50 1 = y3 := by kernel_rfl
theorem y4_is : putN y3 0 (-1) 2 = y4 := by kernel_rfl
theorem y2_runs : refR y2 10 = [⟨0, 6, 100⟩] := by kernel_rfl
theorem y3_cut : refP y3 (Int.toNat 0) (Int.toNat 8) = [⟨0, 2, 100⟩, ⟨2, 1, 50⟩, ⟨3, 3, 103⟩, ⟨6, 2, -1⟩] := by kernel_rfl

set_option maxRecDepth 100000 in
set_option maxHeartbeats 2000000 in
theorem awake_any (w : World) : Calls Try.prog 7 #[] w fun e w' => e = .returned (.bool true) ∧ Keep (fun _ => False) w w' := by
  have hnew := newF_any (w := w) (C := 10) (N := 3) (by omega) (by omega) (by omega) (by omega)
  rw [show ((10 : Nat) : Int) = 10 from rfl, show ((3 : Nat) : Int) = 3 from rfl] at hnew
  go_enter Try.func7, Try.ntmps7
  go_upto_region 4 with (go_at_call 8; refine hnew.mono ?_; rintro e w1 ⟨q, rfl, F1, k1⟩)
  clear hnew
  have M1 : Mf w w1 q 3 10 y0 := ⟨F1, k1⟩
  have c1 : Calls Try.prog 9 #[.pointer (some ⟨q, 0, none⟩), .int .i64 0, .int .i64 4, .int .i64 100] w1 _ := fyes M1 (fset M1.fm (L := 0) (M := 4) (phys := 100) (by omega) (by omega) (by omega) (by omega)) y1_is (by decide +kernel)
  go_upto_region 5 with (go_at_call 9; refine c1.mono ?_; rintro e w2 ⟨rfl, M2, k2⟩)
  clear c1 k2 M1 F1 k1
  have c2 : Calls Try.prog 9 #[.pointer (some ⟨q, 0, none⟩), .int .i64 4, .int .i64 2, .int .i64 104] w2 _ := fyes M2 (fset M2.fm (L := 4) (M := 2) (phys := 104) (by omega) (by omega) (by omega) (by omega)) y2_is (by decide +kernel)
  go_upto_region 6 with (go_at_call 9; refine c2.mono ?_; rintro e w3 ⟨rfl, M3, k3⟩)
  clear c2 k3 M2
  have c3 := fruns M3.fm
  rw [y2_runs, show ([⟨0, 6, 100⟩] : List Rn).length = 1 from rfl] at c3
  have q3 := M3.fm.lt
  go_upto_region 7 with (go_at_call 25; refine c3.mono ?_; rintro e w4 ⟨a4, c4, rfl, R4⟩)
  have M4 := M3.more R4.keep
  have r4 := R4.rs
  have o4 : ∀ g, a4 = some ⟨g, 0, none⟩ → ¬ g = q := fun g e => by have := (R4.block e).1; omega
  clear c3 R4 M3 q3
  have c4 : Calls Try.prog 9 #[.pointer (some ⟨q, 0, none⟩), .int .i64 2, .int .i64 1, .int .i64 50] w4 _ := fyes M4 (fset M4.fm (L := 2) (M := 1) (phys := 50) (by omega) (by omega) (by omega) (by omega)) y3_is (by decide +kernel)
  go_upto_region 8 with (go_at_call 9; refine c4.mono ?_; rintro e w5 ⟨rfl, M5, k5⟩)
  have r5 := r4.keep k5 o4
  clear c4 k5 M4 r4
  have c5 := frange M5.fm (lba := 0) (n := 8) (by decide)
  rw [y3_cut, show ([⟨0, 2, 100⟩, ⟨2, 1, 50⟩, ⟨3, 3, 103⟩, ⟨6, 2, -1⟩] : List Rn).length = 4 from rfl] at c5
  have q5 := M5.fm.lt
  go_upto_region 9 with (go_at_call 19; refine c5.mono ?_; rintro e w6 ⟨a6, c6, rfl, R6⟩)
  have M6 := M5.more R6.keep
  have r6 := r5.more R6.keep
  have p6 := R6.rs
  have o6 : ∀ g, a6 = some ⟨g, 0, none⟩ → ¬ g = q := fun g e => by have := (R6.block e).1; omega
  clear c5 R6 M5 q5 r5
  have c6 : Calls Try.prog 9 #[.pointer (some ⟨q, 0, none⟩), .int .i64 8, .int .i64 1, .int .i64 7] w6 _ := ffull (fset M6.fm (L := 8) (M := 1) (phys := 7) (by omega) (by omega) (by omega) (by omega)) (by decide +kernel)
  go_upto_region 10 with (go_at_call 9; refine c6.mono ?_; rintro e w7 ⟨rfl, k7⟩)
  have M7 := M6.more k7
  have r7 := r6.more k7
  have p7 := p6.more k7
  clear c6 M6 r6 p6 k7
  have c7 := fget M7.fm 2
  rw [show entry y3 2 = some 50 by kernel_rfl, show (some (50 : Int)).getD 0 = 50 from rfl, show (some (50 : Int)).isSome = true from rfl] at c7
  go_upto_region 11 with (go_at_call 22; refine c7.mono ?_; rintro e w8 ⟨rfl, e8⟩; have e8 := e8.symm; subst e8)
  clear c7
  have c8 := fget M7.fm 9
  rw [show entry y3 9 = none by kernel_rfl, show (none : Option Int).getD 0 = 0 from rfl, show (none : Option Int).isSome = false from rfl] at c8
  go_upto_region 12 with (go_at_call 22; refine c8.mono ?_; rintro e w8 ⟨rfl, e8⟩; have e8 := e8.symm; subst e8)
  clear c8
  have c9 : Calls Try.prog 10 #[.pointer (some ⟨q, 0, none⟩), .int .i64 0, .int .i64 2] w7 _ := fyes M7 (fclear M7.fm (L := 0) (M := 2) (by omega) (by omega)) y4_is (by decide +kernel)
  go_upto_region 13 with (go_at_call 10; refine c9.mono ?_; rintro e w10 ⟨rfl, M10, k10⟩)
  have s10 := r7.keep k10 o4
  have rp10 := p7.keep k10 o6
  clear c9 M7 r7 p7 k10
  obtain ⟨g0, rfl, y0, y1, y2⟩ := s10.at (i := 0) (x := ⟨0, 6, 100⟩) rfl
  obtain ⟨g1, rfl, z0, z1, z2⟩ := rp10.at (i := 3) (x := ⟨6, 2, -1⟩) rfl
  have hc0 := s10.1
  have hc := rp10.1
  simp only [Nat.zero_mul, Nat.zero_add, Nat.reduceMul, Nat.reduceAdd, List.length_cons, List.length_nil] at y0 y1 y2 z0 z1 z2 hc hc0
  have hcount := fcount M10.fm
  rw [show (refR y4 10).length = 2 by decide +kernel, show ((2 : Nat) : Int) = 2 from rfl] at hcount
  simp only [List.append_eq, List.cons_append, List.nil_append]
  clear s10 rp10 o4 o6
  have hcapa := fun w' (k : Keep (fun _ => False) w10 w') => fcap (M10.more k).fm
  have hmost := fun w' (k : Keep (fun _ => False) w10 w') => fmost (M10.more k).fm
  rw [show ((10 : Nat) : Int) = 10 from rfl] at hcapa
  rw [show ((3 : Nat) : Int) = 3 from rfl] at hmost
  go_wp2_with (first | (go_at_call 11; refine hcount.mono ?_; rintro e w11 ⟨rfl, k11⟩) | (go_at_call 29; refine (hcapa _ k11).mono ?_; rintro e wz ⟨rfl, ez⟩; have ez := ez.symm; subst ez) | (go_at_call 30; refine (hmost _ k11).mono ?_; rintro e wz ⟨rfl, ez⟩; have ez := ez.symm; subst ez))
  have M11 := M10.more k11
  have t1 := ftable M11.fm
  clear hcount hcapa hmost
  refine t1.mono ?_
  rintro e w12 ⟨a12, c12, rfl, R12⟩
  have M12 := M11.more R12.keep
  have t2 := ftable M12.fm
  clear t1 M11 R12 M10 k11
  go_wp2_with fail
  refine t2.mono ?_
  rintro e w13 ⟨a13, c13, rfl, R13⟩
  have HK := (M12.more R13.keep).keep
  obtain ⟨g13, rfl, hcell⟩ := R13.is.at (i := 2) (by decide)
  have hc13 := R13.is.1
  rw [show List.getD Tg.y4 2 (-1) = 50 from rfl] at hcell
  rw [show List.length Tg.y4 = 10 from rfl] at hc13
  clear t2 M12 R13
  go_wp2_with fail
  go_ret
  exact ⟨rfl, HK⟩
end Tg
end Go.Proofs.Ytbdankhlbepjoaa
