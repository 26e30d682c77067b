/-
  The flat map is always what one entry a sector would be: the play.
-/
import Derived.Test.YtbdankhlbepjoaaIsF
namespace Go.Proofs.Ytbdankhlbepjoaa
open Go.ChangeShapes Go.WideShapes Go.ChangeAt Go.RowKit
namespace Tg

/-- A flat map, and a list of pages that are its entries. -/
structure Pl (W wx : World) (q N C : Nat) (ta : Option Addr) (tc : Nat) : Prop where
  ex : ∃ t, Mf W wx q N C t ∧ Is wx ta tc t
  ap : ∀ g, ta = some ⟨g, 0, none⟩ → ¬ g = q
theorem Pl.more {W wx w' : World} {q N C : Nat} {ta : Option Addr} {tc : Nat} (h : Pl W wx q N C ta tc) (hk : Keep (fun _ => False) wx w') : Pl W w' q N C ta tc := by
  obtain ⟨t, h1, h2⟩ := h.ex
  exact ⟨⟨t, h1.more hk, h2.more hk⟩, h.ap⟩
theorem Pl.keep {W wx : World} {q N C : Nat} {ta : Option Addr} {tc : Nat} (h : Pl W wx q N C ta tc) : Keep (fun _ => False) W wx := by
  obtain ⟨t, h1, -⟩ := h.ex
  exact h1.keep
theorem Pl.is {W wx : World} {q N C : Nat} {ta : Option Addr} {tc : Nat} (h : Pl W wx q N C ta tc) {lba : Int} (n : Int) (hat : -9223372036854775808 ≤ lba ∧ lba ≤ 9223372036854775807) :
    Calls Try.prog 14 #[.pointer (some ⟨q, 0, none⟩), .slice ta C tc, .int .i64 (N : Int), .int .i64 lba, .int .i64 n] wx fun e w' => e = .returned (.bool true) ∧ Keep (fun _ => False) wx w' := by
  obtain ⟨t, h1, h2⟩ := h.ex
  exact is_any h1.fm h2 hat
theorem Pl.new {W w1 w' : World} {q N C : Nat} {a : Option Addr} {c : Nat} (h : Mf W w1 q N C (List.replicate C (-1))) (hr : Ri w1 w' a c (List.replicate C (-1))) : Pl W w' q N C a c :=
  ⟨⟨_, h.more hr.keep, hr.is⟩, fun g e => by have := (hr.block e).1; have := h.fm.lt; omega⟩

/-- What both answer of a change, and that they go on alike. -/
def Both (W wx : World) (q N C : Nat) (vs : Array Value) (f : FuncId) (args : Array Value) (bad : Int) : Prop :=
  Calls Try.prog 13 vs wx fun e w1 => ∃ a' c', e = .returned (.tuple #[.slice a' C c', .int .i64 bad]) ∧ Keep (fun _ => False) wx w1 ∧
    Calls Try.prog f args w1 fun e w2 => e = .returned (.int .i64 bad) ∧ Pl W w2 q N C a' c' ∧ Keep (fun x => x = q) w1 w2

/-- A change that both make, or both refuse for the runs' number. -/
theorem both_of {W wx : World} {q N C : Nat} {ta : Option Addr} {tc : Nat} {vs args : Array Value} {f : FuncId} {t u : List Int}
    (h1 : Mf W wx q N C t) (h2 : Is wx ta tc t) (ap : ∀ g, ta = some ⟨g, 0, none⟩ → ¬ g = q)
    (hul : u.length = C) (hset : Calls Try.prog 13 vs wx (Sat wx ta tc t u (N : Int)))
    (hdo : ∀ w1, Mf W w1 q N C t → Calls Try.prog f args w1 (Fid W.heap.size w1 q N C u)) : ∃ bad, Both W wx q N C vs f args bad := by
  have htl := h1.fm.tl
  by_cases c : (refR u C).length ≤ N
  · refine ⟨0, hset.mono ?_⟩
    rintro e w1 (⟨-, a', c', rfl, R⟩ | ⟨hf, -⟩)
    · refine ⟨a', c', by rw [htl], R.keep, (hdo w1 (h1.more R.keep)).mono ?_⟩
      rintro e w2 (⟨-, he, F2, k2⟩ | ⟨hf, -⟩)
      · have ap' : ∀ g, a' = some ⟨g, 0, none⟩ → ¬ g = q := fun g e => by have := (R.block e).1; have := h1.fm.lt; omega
        exact ⟨he, ⟨⟨u, (h1.more R.keep).to F2 k2, R.is.keep k2 ap'⟩, ap'⟩, k2⟩
      · omega
    · rw [hul] at hf; omega
  · refine ⟨5, hset.mono ?_⟩
    rintro e w1 (⟨hf, -⟩ | ⟨-, rfl, k1⟩)
    · rw [hul] at hf; omega
    · refine ⟨ta, tc, by rw [htl], k1, (hdo w1 (h1.more k1)).mono ?_⟩
      rintro e w2 (⟨hf, -⟩ | ⟨-, he, k2⟩)
      · omega
      · exact ⟨he, ⟨⟨t, (h1.more k1).more k2, (h2.more k1).more k2⟩, ap⟩, k2.mono (fun _ _ e => e.elim)⟩

theorem Pl.set {W wx : World} {q N C : Nat} {ta : Option Addr} {tc : Nat} (h : Pl W wx q N C ta tc) (f : Nat → Int) (hf : ∀ j, -9223372036854775808 ≤ f j ∧ f j ≤ 9223372036854775807) :
    ∃ bad, Both W wx q N C #[.slice ta C tc, .int .i64 (N : Int), .int .i64 (f 1), .int .i64 (f 2), .int .i64 (f 3), .bool false] 9 #[.pointer (some ⟨q, 0, none⟩), .int .i64 (f 1), .int .i64 (f 2), .int .i64 (f 3)] bad := by
  obtain ⟨t, h1, h2⟩ := h.ex
  have h5 := h1.fm.tl
  have hc1 := h1.fm.cap1
  have hc2 := h1.fm.cap2
  by_cases c : okR (C : Int) (f 1) (f 2) = true ∧ 0 ≤ f 3 ∧ f 3 ≤ 1048576
  · obtain ⟨c1, c2, c3⟩ := okR_iff.1 c.1
    obtain ⟨L, eL⟩ : ∃ L : Nat, f 1 = (L : Int) := ⟨(f 1).toNat, by omega⟩
    obtain ⟨M, eM⟩ : ∃ M : Nat, f 2 = (M : Int) := ⟨(f 2).toNat, by omega⟩
    have hset := set9_yes h2 (by omega) (by omega) h1.fm.tab (lba := L) (n := M) (by omega) (by omega) (N : Int) c.2
    rw [h5, ← eL, ← eM] at hset
    refine both_of h1 h2 h.ap (by rw [putN_len]; exact h5) hset (fun w1 M1 => ?_)
    rw [eL, eM]
    exact fset M1.fm (by omega) (by omega) c.2.1 c.2.2
  · have hno : okR (C : Int) (f 1) (f 2) = false ∨ f 3 < 0 ∨ 1048576 < f 3 := by
      by_cases c1 : okR (C : Int) (f 1) (f 2) = true
      · right
        by_cases c2 : f 3 < 0
        · exact Or.inl c2
        · right
          by_cases c3 : f 3 ≤ 1048576
          · exact absurd ⟨c1, by omega, c3⟩ c
          · omega
      · left; simpa using c1
    have hset := set9_no (w := wx) (a := ta) (c := tc) (t := t) (by omega) (N : Int) (f 1) (f 2) (f 3) false (by rw [h5]; exact hno.imp id (fun e => ⟨rfl, e⟩))
    rw [h5] at hset
    refine ⟨1, hset.mono ?_⟩
    rintro e w1 ⟨rfl, rfl⟩
    refine ⟨ta, tc, rfl, Keep.refl _ _, (fset_no h1.fm (hf 1).2 hno).mono ?_⟩
    rintro e w2 ⟨rfl, rfl⟩
    exact ⟨rfl, h, Keep.refl _ _⟩
theorem Pl.clear {W wx : World} {q N C : Nat} {ta : Option Addr} {tc : Nat} (h : Pl W wx q N C ta tc) (f : Nat → Int) (hf : ∀ j, -9223372036854775808 ≤ f j ∧ f j ≤ 9223372036854775807) :
    ∃ bad, Both W wx q N C #[.slice ta C tc, .int .i64 (N : Int), .int .i64 (f 1), .int .i64 (f 2), .int .i64 0, .bool true] 10 #[.pointer (some ⟨q, 0, none⟩), .int .i64 (f 1), .int .i64 (f 2)] bad := by
  obtain ⟨t, h1, h2⟩ := h.ex
  have h5 := h1.fm.tl
  have hc1 := h1.fm.cap1
  have hc2 := h1.fm.cap2
  by_cases c : okR (C : Int) (f 1) (f 2) = true
  · obtain ⟨c1, c2, c3⟩ := okR_iff.1 c
    obtain ⟨L, eL⟩ : ∃ L : Nat, f 1 = (L : Int) := ⟨(f 1).toNat, by omega⟩
    obtain ⟨M, eM⟩ : ∃ M : Nat, f 2 = (M : Int) := ⟨(f 2).toNat, by omega⟩
    have hset := clear9_yes h2 (by omega) (by omega) h1.fm.tab (lba := L) (n := M) (by omega) (by omega) (N : Int)
    rw [h5, ← eL, ← eM] at hset
    refine both_of h1 h2 h.ap (by rw [putN_len]; exact h5) hset (fun w1 M1 => ?_)
    rw [eL, eM]
    exact fclear M1.fm (by omega) (by omega)
  · have hno : okR (C : Int) (f 1) (f 2) = false := by simpa using c
    have hset := set9_no (w := wx) (a := ta) (c := tc) (t := t) (by omega) (N : Int) (f 1) (f 2) 0 true (by rw [h5]; exact Or.inl hno)
    rw [h5] at hset
    refine ⟨1, hset.mono ?_⟩
    rintro e w1 ⟨rfl, rfl⟩
    refine ⟨ta, tc, rfl, Keep.refl _ _, (fclear_no h1.fm (hf 1).2 hno).mono ?_⟩
    rintro e w2 ⟨rfl, rfl⟩
    exact ⟨rfl, h, Keep.refl _ _⟩

set_option maxRecDepth 100000 in
set_option maxHeartbeats 4000000 in
theorem plays_any {W : World} {cap most : Int} {a : Option Addr} {len c : Nat} (hA : Acts W a len c) {lba : Int} (hlb : -9223372036854775808 ≤ lba ∧ lba ≤ 9223372036854775807) (n : Int) :
    Calls Try.prog 4 #[.int .i64 cap, .int .i64 most, .slice a len c, .int .i64 lba, .int .i64 n] W fun e w' => e = .returned (.bool true) ∧ Keep (fun _ => False) W w' := by
  have haw := awake_any W
  have hlc := hA.1
  have hlc2 := hA.2.1
  by_cases hcap : cap < 1 ∨ 512 < cap ∨ most < 1 ∨ 512 < most
  · have hn := fun w => newF_no (w := w) (c := cap) (n := most) hcap
    clear hA
    by_cases c1 : cap < 1
    · clear hcap
      go_enter Try.func4, Try.ntmps4
      go_wp2_with (first | (go_at_call 7; refine haw.mono ?_; rintro e w2 ⟨rfl, k2⟩) | (go_at_call 8; refine (hn _).mono ?_; rintro e w3 ⟨rfl, e3⟩; have e3 := e3.symm; subst e3))
      go_ret
      exact ⟨rfl, k2⟩
    by_cases c2 : 512 < cap
    · clear hcap
      go_enter Try.func4, Try.ntmps4
      go_wp2_with (first | (go_at_call 7; refine haw.mono ?_; rintro e w2 ⟨rfl, k2⟩) | (go_at_call 8; refine (hn _).mono ?_; rintro e w3 ⟨rfl, e3⟩; have e3 := e3.symm; subst e3))
      go_ret
      exact ⟨rfl, k2⟩
    by_cases c3 : most < 1
    · clear hcap
      go_enter Try.func4, Try.ntmps4
      go_wp2_with (first | (go_at_call 7; refine haw.mono ?_; rintro e w2 ⟨rfl, k2⟩) | (go_at_call 8; refine (hn _).mono ?_; rintro e w3 ⟨rfl, e3⟩; have e3 := e3.symm; subst e3))
      go_ret
      exact ⟨rfl, k2⟩
    have c4 : 512 < most := by omega
    clear hcap
    go_enter Try.func4, Try.ntmps4
    go_wp2_with (first | (go_at_call 7; refine haw.mono ?_; rintro e w2 ⟨rfl, k2⟩) | (go_at_call 8; refine (hn _).mono ?_; rintro e w3 ⟨rfl, e3⟩; have e3 := e3.symm; subst e3))
    go_ret
    exact ⟨rfl, k2⟩
  obtain ⟨C, rfl⟩ : ∃ C : Nat, cap = (C : Int) := ⟨cap.toNat, by omega⟩
  obtain ⟨N, rfl⟩ : ∃ N : Nat, most = (N : Int) := ⟨most.toNat, by omega⟩
  have hC1 : 1 ≤ C := by omega
  have hC2 : C ≤ 512 := by omega
  have hN1 : 1 ≤ N := by omega
  have hN2 : N ≤ 512 := by omega
  have n1 := fun w => newF_any (w := w) (C := C) (N := N) hC1 hC2 hN1 hN2
  have b1 : ¬ (C : Int) < 1 := by omega
  have b2 : ¬ (512 : Int) < C := by omega
  have b3 : ¬ (N : Int) < 1 := by omega
  have b4 : ¬ (512 : Int) < N := by omega
  clear hcap
  go_enter Try.func4, Try.ntmps4
  go_upto_region 6 with (first | (go_at_call 7; refine haw.mono ?_; rintro e w2 ⟨rfl, k2⟩) | (go_at_call 8; refine (n1 _).mono ?_; rintro e w3 ⟨q, rfl, F3, k3⟩))
  clear haw n1
  have M4 : Mf W w3 q N C (List.replicate C (-1)) := Mf.older ⟨F3, k3⟩ k2
  clear F3 k3
  by_cases c1 : (40 : Int) < len
  · have HK := M4.keep
    clear hA M4
    go_wp2_with fail
    go_ret
    exact ⟨rfl, HK⟩
  by_cases c2 : (64 : Int) < C
  · have HK := M4.keep
    clear hA M4
    go_wp2_with fail
    go_ret
    exact ⟨rfl, HK⟩
  have hl40 : len ≤ 40 := by omega
  have hnew := new9 (w := w3) (C := C) hC2
  go_wp2_with (go_at_call 12; refine hnew.mono ?_; rintro e w4 ⟨ta, tc, rfl, R4⟩)
  have P4 := Pl.new M4 R4
  clear hnew R4 M4 c1 c2 b1 b2 b3 b4
  go_loopw [13, 14] (fun tv v wx => ∃ (i : Nat) (ta : Option Addr) (tc : Nat), i ≤ len ∧ tv = .slice ta C tc ∧ v = .int .i64 (i : Int) ∧ Pl W wx q N C ta tc) (fun _ v _ => len - (intOf v).toNat)
  case atStart => exact ⟨0, ta, tc, by omega, rfl, rfl, P4⟩
  case round =>
    clear P4
    obtain ⟨i, ta, tc, hi, rfl, rfl, P1⟩ := hrel
    by_cases hlt : i < len
    · obtain ⟨ab, ao, rfl, h, hh, y0, y1, y2, y3⟩ := hA.at hlt
      have KX := P1.keep
      have e0 := KX.cell y0
      have e1 := KX.cell y1
      have e2 := KX.cell y2
      have e3 := KX.cell y3
      have di : (i : Int) < (len : Int) := by omega
      have dw := wrapI (x := (i : Int) + 1) (by omega) (by omega)
      have hlt' : Hid (i < len) := hlt
      have K2 : Keep (fun _ => False) wr (wr.alloc (.cells (actA h) 34)) := (Keep.refl _ _).alloc _
      have L2 := Lact.new wr h
      have P2 := P1.more K2
      have oG : ¬ wr.heap.size = q := by obtain ⟨t, hm, -⟩ := P1.ex; have := hm.fm.lt; omega
      unfold actA at K2 L2 P2
      clear hlt KX hA y0 y1 y2 y3 P1
      go_upto_region 13 with fail
      generalize wr.alloc (.cells #[.int .i64 (h 0), .int .i64 (h 1), .int .i64 (h 2), .int .i64 (h 3)] 34) = w2 at K2 L2 P2 ⊢
      generalize wr.heap.size = g at L2 oG ⊢
      obtain ⟨f0, f1, f2, f3⟩ := L2.c
      clear e0 e1 e2 e3
      by_cases c0 : h 0 = 0
      · have cb : (h 0 == 0) = true := by simp [c0]
        clear c0
        obtain ⟨bad, hB⟩ := P2.set h hh
        unfold Both at hB
        clear P2
        go_upto_region 16 with (go_at_call 13; refine hB.mono ?_; rintro e w5 ⟨ta', tc', rfl, k5, hC⟩)
        have L5 := L2.more k5
        obtain ⟨f0, f1, f2, f3⟩ := L5.c
        clear hB k5 L2
        go_upto_region 24 with (go_at_call 9; refine hC.mono ?_; rintro e w6 ⟨rfl, P6, k6⟩)
        have L6 : Lact w6 g h := Blk.keep L5 k6 oG
        clear hC L5 k6 f0 f1 f2 f3
        have i1 := P6.is (h 2) (hh 1)
        obtain ⟨f0, f1, f2, f3⟩ := L6.c
        go_wp2_with fail
        refine i1.mono ?_
        rintro e w7 ⟨rfl, k7⟩
        have P7 := P6.more k7
        have i2 := P7.is n hlb
        clear i1 P6 L6 f0 f1 f2 f3
        go_wp2_with fail
        refine i2.mono ?_
        rintro e w8 ⟨rfl, k8⟩
        have P8 := P7.more k8
        clear i2 P7
        go_wp2_with fail
        go_roundw
        case rel => exact ⟨i + 1, ta', tc', hlt', rfl, by go_num, P8⟩
        case measure => have : i < len := hlt'; simp [intOf]; omega
      · have cb : (h 0 == 0) = false := by simp [c0]
        by_cases c1 : h 0 = 1
        · have cb1 : (h 0 == 1) = true := by simp [c1]
          clear c0 c1
          obtain ⟨bad, hB⟩ := P2.clear h hh
          unfold Both at hB
          clear P2
          go_upto_region 21 with (go_at_call 13; refine hB.mono ?_; rintro e w5 ⟨ta', tc', rfl, k5, hC⟩)
          have L5 := L2.more k5
          obtain ⟨f0, f1, f2, f3⟩ := L5.c
          clear hB k5 L2
          go_upto_region 24 with (go_at_call 10; refine hC.mono ?_; rintro e w6 ⟨rfl, P6, k6⟩)
          have L6 : Lact w6 g h := Blk.keep L5 k6 oG
          clear hC L5 k6 f0 f1 f2 f3
          have i1 := P6.is (h 2) (hh 1)
          obtain ⟨f0, f1, f2, f3⟩ := L6.c
          go_wp2_with fail
          refine i1.mono ?_
          rintro e w7 ⟨rfl, k7⟩
          have P7 := P6.more k7
          have i2 := P7.is n hlb
          clear i1 P6 L6 f0 f1 f2 f3
          go_wp2_with fail
          refine i2.mono ?_
          rintro e w8 ⟨rfl, k8⟩
          have P8 := P7.more k8
          clear i2 P7
          go_wp2_with fail
          go_roundw
          case rel => exact ⟨i + 1, ta', tc', hlt', rfl, by go_num, P8⟩
          case measure => have : i < len := hlt'; simp [intOf]; omega
        · have cb1 : (h 0 == 1) = false := by simp [c1]
          clear c0 c1
          go_upto_region 24 with fail
          have P6 := P2
          have L6 := L2
          clear P2 L2 f0 f1 f2 f3
          have i1 := P6.is (h 2) (hh 1)
          obtain ⟨f0, f1, f2, f3⟩ := L6.c
          go_wp2_with fail
          refine i1.mono ?_
          rintro e w7 ⟨rfl, k7⟩
          have P7 := P6.more k7
          have i2 := P7.is n hlb
          clear i1 P6 L6 f0 f1 f2 f3
          go_wp2_with fail
          refine i2.mono ?_
          rintro e w8 ⟨rfl, k8⟩
          have P8 := P7.more k8
          clear i2 P7
          go_wp2_with fail
          go_roundw
          case rel => exact ⟨i + 1, ta, tc, hlt', rfl, by go_num, P8⟩
          case measure => have : i < len := hlt'; simp [intOf]; omega
    · have di : ¬ (i : Int) < (len : Int) := by omega
      have HK := P1.keep
      clear hA hlt P1
      go_wp2_with fail
      go_ret
      exact ⟨rfl, HK⟩
theorem plays_walk (W : World) (cap most : Int) {a : Option Addr} {len c : Nat} (hA : Acts W a len c) {lba : Int} (hl : (Lit.int .i64 lba).wf = true) (n : Int) :
    Calls Try.prog 4 #[.int .i64 cap, .int .i64 most, .slice a len c, .int .i64 lba, .int .i64 n] W fun e w' => e = .returned (.bool true) ∧ Below W.heap.size W w' :=
  (plays_any hA (int_fits hl) n).mono (by rintro e w' ⟨h1, h2⟩; exact ⟨h1, h2.below (Nat.le_refl _) (fun _ e => e.elim)⟩)
end Tg
end Go.Proofs.Ytbdankhlbepjoaa
