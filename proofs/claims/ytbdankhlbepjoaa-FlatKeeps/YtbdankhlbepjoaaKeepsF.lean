/-
  A call of the flat map that is refused changes no entry; one that is taken changes just those of its range.
-/
import Derived.Test.YtbdankhlbepjoaaAwF
namespace Go.Proofs.Ytbdankhlbepjoaa
open Go.ChangeShapes Go.WideShapes Go.ChangeAt Go.RowKit
namespace Tg

/-- What a call's answer tells of the entries before and behind it. -/
structure Chg (C : Nat) (f : Nat → Int) (r : Int) (t t' : List Int) : Prop where
  no : ¬ r = 0 → t' = t
  ok : r = 0 → okR (C : Int) (f 1) (f 2) = true ∧ (f 0 = 0 → 0 ≤ f 3 ∧ f 3 ≤ 1048576) ∧ ∀ k : Nat, k < C → t'.getD k (-1) = if f 1 ≤ (k : Int) ∧ (k : Int) - f 1 < f 2 then (if f 0 = 0 then f 3 + ((k : Int) - f 1) else -1) else t.getD k (-1)

theorem Mf.actSet {W wa : World} {q N C : Nat} {t : List Int} (h : Mf W wa q N C t) (f : Nat → Int) (hf : ∀ j, -9223372036854775808 ≤ f j ∧ f j ≤ 9223372036854775807) (h0 : f 0 = 0) :
    ∃ r t', Chg C f r t t' ∧ Calls Try.prog 9 #[.pointer (some ⟨q, 0, none⟩), .int .i64 (f 1), .int .i64 (f 2), .int .i64 (f 3)] wa fun e w' => e = .returned (.int .i64 r) ∧ Mf W w' q N C t' ∧ Keep (fun x => x = q) wa w' := by
  have h5 := h.fm.tl
  by_cases c : okR (C : Int) (f 1) (f 2) = true ∧ 0 ≤ f 3 ∧ f 3 ≤ 1048576
  · obtain ⟨c1, c2, c3⟩ := okR_iff.1 c.1
    obtain ⟨L, eL⟩ : ∃ L : Nat, f 1 = (L : Int) := ⟨(f 1).toNat, by omega⟩
    obtain ⟨M, eM⟩ : ∃ M : Nat, f 2 = (M : Int) := ⟨(f 2).toNat, by omega⟩
    have hs := fset h.fm (L := L) (M := M) (phys := f 3) (by omega) (by omega) c.2.1 c.2.2
    by_cases cl : (refR (putN t L (f 3) M) C).length ≤ N
    · refine ⟨0, putN t L (f 3) M, ⟨fun e => absurd rfl e, fun _ => ⟨c.1, fun _ => c.2, fun k hk => ?_⟩⟩, ?_⟩
      · rw [putN_get t L (f 3) M (by omega) k, eL, eM, if_neg (show ¬ f 3 < 0 by omega), if_pos h0]
        by_cases c4 : L ≤ k ∧ k < L + M
        · rw [if_pos c4, if_pos (by omega)]
        · rw [if_neg c4, if_neg (by omega)]
      · rw [eL, eM]
        exact fyes h hs rfl cl
    · refine ⟨5, t, ⟨fun _ => rfl, fun e => by omega⟩, ?_⟩
      rw [eL, eM]
      refine (ffull hs (by omega)).mono ?_
      rintro e w' ⟨rfl, k⟩
      exact ⟨rfl, h.more k, k.mono (fun _ _ e => e.elim)⟩
  · have hno : okR (C : Int) (f 1) (f 2) = false ∨ f 3 < 0 ∨ 1048576 < f 3 := by
      by_cases c1 : okR (C : Int) (f 1) (f 2) = true
      · right
        by_cases c2 : f 3 < 0
        · exact Or.inl c2
        · right
          by_cases c3 : f 3 ≤ 1048576
          · exact absurd ⟨c1, by omega, c3⟩ c
          · omega
      · left; simpa using c1
    refine ⟨1, t, ⟨fun _ => rfl, fun e => by omega⟩, (fset_no h.fm (hf 1).2 hno).mono ?_⟩
    rintro e w' ⟨rfl, rfl⟩
    exact ⟨rfl, h, Keep.refl _ _⟩
theorem Mf.actClear {W wa : World} {q N C : Nat} {t : List Int} (h : Mf W wa q N C t) (f : Nat → Int) (hf : ∀ j, -9223372036854775808 ≤ f j ∧ f j ≤ 9223372036854775807) (h0 : ¬ f 0 = 0) :
    ∃ r t', Chg C f r t t' ∧ Calls Try.prog 10 #[.pointer (some ⟨q, 0, none⟩), .int .i64 (f 1), .int .i64 (f 2)] wa fun e w' => e = .returned (.int .i64 r) ∧ Mf W w' q N C t' ∧ Keep (fun x => x = q) wa w' := by
  have h5 := h.fm.tl
  by_cases c : okR (C : Int) (f 1) (f 2) = true
  · obtain ⟨c1, c2, c3⟩ := okR_iff.1 c
    obtain ⟨L, eL⟩ : ∃ L : Nat, f 1 = (L : Int) := ⟨(f 1).toNat, by omega⟩
    obtain ⟨M, eM⟩ : ∃ M : Nat, f 2 = (M : Int) := ⟨(f 2).toNat, by omega⟩
    have hs := fclear h.fm (L := L) (M := M) (by omega) (by omega)
    by_cases cl : (refR (putN t L (-1) M) C).length ≤ N
    · refine ⟨0, putN t L (-1) M, ⟨fun e => absurd rfl e, fun _ => ⟨c, fun e => absurd e h0, fun k hk => ?_⟩⟩, ?_⟩
      · rw [putN_get t L (-1) M (by omega) k, eL, eM, if_pos (show (-1 : Int) < 0 by omega), if_neg h0]
        by_cases c4 : L ≤ k ∧ k < L + M
        · rw [if_pos c4, if_pos (by omega)]
        · rw [if_neg c4, if_neg (by omega)]
      · rw [eL, eM]
        exact fyes h hs rfl cl
    · refine ⟨5, t, ⟨fun _ => rfl, fun e => by omega⟩, ?_⟩
      rw [eL, eM]
      refine (ffull hs (by omega)).mono ?_
      rintro e w' ⟨rfl, k⟩
      exact ⟨rfl, h.more k, k.mono (fun _ _ e => e.elim)⟩
  · refine ⟨1, t, ⟨fun _ => rfl, fun e => by omega⟩, (fclear_no h.fm (hf 1).2 (by simpa using c)).mono ?_⟩
    rintro e w' ⟨rfl, rfl⟩
    exact ⟨rfl, h, Keep.refl _ _⟩

set_option maxRecDepth 100000 in
set_option maxHeartbeats 4000000 in
theorem keeps_any {W : World} {cap most : Int} {a : Option Addr} {len c : Nat} (hA : Acts W a len c) :
    Calls Try.prog 6 #[.int .i64 cap, .int .i64 most, .slice a len c] W fun e w' => e = .returned (.bool true) ∧ Keep (fun _ => False) W w' := by
  have haw := awake_any W
  have hlc := hA.1
  have hlc2 := hA.2.1
  by_cases hcap : cap < 1 ∨ 512 < cap ∨ most < 1 ∨ 512 < most
  · have hn := fun w => newF_no (w := w) (c := cap) (n := most) hcap
    clear hA hcap
    go_enter Try.func6, Try.ntmps6
    go_wp2_with (first | (go_at_call 7; refine haw.mono ?_; rintro e w2 ⟨rfl, k2⟩) | (go_at_call 8; refine (hn _).mono ?_; rintro e w3 ⟨rfl, e3⟩; have e3 := e3.symm; subst e3))
    go_ret
    exact ⟨rfl, k2⟩
  obtain ⟨C, rfl⟩ : ∃ C : Nat, cap = (C : Int) := ⟨cap.toNat, by omega⟩
  obtain ⟨N, rfl⟩ : ∃ N : Nat, most = (N : Int) := ⟨most.toNat, by omega⟩
  have hC1 : 1 ≤ C := by omega
  have hC2 : C ≤ 512 := by omega
  have hN1 : 1 ≤ N := by omega
  have hN2 : N ≤ 512 := by omega
  have n1 := fun w => newF_any (w := w) (C := C) (N := N) hC1 hC2 hN1 hN2
  clear hcap
  go_enter Try.func6, Try.ntmps6
  go_upto_region 4 with (first | (go_at_call 7; refine haw.mono ?_; rintro e w2 ⟨rfl, k2⟩) | (go_at_call 8; refine (n1 _).mono ?_; rintro e w3 ⟨q, rfl, F3, k3⟩))
  clear haw n1
  have M4 : Mf W w3 q N C (List.replicate C (-1)) := Mf.older ⟨F3, k3⟩ k2
  clear F3 k3
  by_cases c1 : (60 : Int) < len
  · have HK := M4.keep
    clear hA M4
    go_wp2_with fail
    go_ret
    exact ⟨rfl, HK⟩
  by_cases c2 : (64 : Int) < C
  · have HK := M4.keep
    clear hA M4
    go_wp2_with fail
    go_ret
    exact ⟨rfl, HK⟩
  have hl60 : len ≤ 60 := by omega
  go_wp2_with fail
  clear c1 c2
  go_loopw [9] (fun v wx => ∃ (i : Nat) (t : List Int), i ≤ len ∧ v = .int .i64 (i : Int) ∧ Mf W wx q N C t) (fun v _ => len - (intOf v).toNat)
  case atStart => exact ⟨0, _, by omega, rfl, M4⟩
  case round =>
    clear M4
    obtain ⟨i, t, hi, rfl, M1⟩ := hrel
    by_cases hlt : i < len
    · obtain ⟨ab, ao, rfl, h, hh, x0, x1, x2, x3⟩ := hA.at hlt
      have KX := M1.keep
      have e0 := KX.cell x0
      have e1 := KX.cell x1
      have e2 := KX.cell x2
      have e3 := KX.cell x3
      have di : (i : Int) < (len : Int) := by omega
      have dw := wrapI (x := (i : Int) + 1) (by omega) (by omega)
      have hlt' : Hid (i < len) := hlt
      have K2 : Keep (fun _ => False) wr (wr.alloc (.cells (actA h) 34)) := (Keep.refl _ _).alloc _
      have L2 := Lact.new wr h
      have M2 := M1.more K2
      have oG : ¬ wr.heap.size = q := by have := M1.fm.lt; omega
      unfold actA at K2 L2 M2
      clear hlt KX hA x0 x1 x2 x3 M1
      go_upto_region 10 with fail
      generalize wr.alloc (.cells #[.int .i64 (h 0), .int .i64 (h 1), .int .i64 (h 2), .int .i64 (h 3)] 34) = w2 at K2 L2 M2 ⊢
      generalize wr.heap.size = g at L2 oG ⊢
      clear e0 e1 e2 e3
      have htb := ftable M2.fm
      have qlt := M2.fm.lt
      go_upto_region 12 with (go_at_call 27; refine htb.mono ?_; rintro e w3 ⟨a3, c3, rfl, R3⟩)
      have M3 := M2.more R3.keep
      have L3 := L2.more R3.keep
      have I3 := R3.is
      have o3 : ∀ g, a3 = some ⟨g, 0, none⟩ → ¬ g = q := fun g e => by have := (R3.block e).1; omega
      have hc3 : C ≤ c3 := by have := I3.1; have := M3.fm.tl; omega
      clear htb R3 M2 L2 K2 qlt
      obtain ⟨f0, f1, f2, f3⟩ := L3.c
      by_cases c0 : h 0 = 0
      · have cb : (h 0 == 0) = true := by simp [c0]
        have cbn : (h 0 != 0) = false := by simp [c0]
        obtain ⟨r, t', hC, hcall⟩ := M3.actSet h hh c0
        have c0' : Hid (h 0 = 0) := c0
        clear c0
        go_upto_region 15 with (go_at_call 9; refine hcall.mono ?_; rintro e w4 ⟨rfl, M5, k4⟩)
        have L5 : Lact w4 g h := Blk.keep L3 k4 oG
        have I5 := I3.keep k4 o3
        have tl3 := M3.fm.tl
        clear hcall k4 L3 I3 M3 f0 f1 f2 f3 o3 oG
        have htb := ftable M5.fm
        go_upto_region 16 with (go_at_call 27; refine htb.mono ?_; rintro e w5 ⟨a5, c5, rfl, R5⟩)
        have M6 := M5.more R5.keep
        have L6 := L5.more R5.keep
        have I6 := I5.more R5.keep
        have J6 := R5.is
        have tl5 := M6.fm.tl
        have hc5 : C ≤ c5 := by have := J6.1; omega
        have hct := fcount M6.fm
        have hlen := M6.fm.len
        generalize (refR t' C).length = n' at hct hlen
        have dn : ¬ (N : Int) < (n' : Int) := by omega
        clear htb R5 M5 L5 I5
        go_upto_region 18 with (go_at_call 11; refine hct.mono ?_; rintro e w6 ⟨rfl, k6⟩)
        have M7 := M6.more k6
        have L7 := L6.more k6
        have I7 := I6.more k6
        have J7 := J6.more k6
        clear hct k6 M6 L6 I6 J6 hlen dn
        go_wp2_with fail
        by_cases cr : r = 0
        · obtain ⟨ok, hph, hval⟩ := hC.ok cr
          obtain ⟨o1, o2, o3⟩ := okR_iff.1 ok
          have crb : (r == 0) = true := by simp [cr]
          clear hC
          go_loopw [14] (fun v wx => ∃ k : Nat, k ≤ C ∧ v = .int .i64 (k : Int) ∧ Keep (fun _ => False) w6 wx) (fun v _ => C - (intOf v).toNat)
          case atStart => exact ⟨0, by omega, rfl, Keep.refl _ _⟩
          case round =>
            obtain ⟨k, hk, rfl, k7⟩ := hrel
            by_cases hkl : k < C
            · obtain ⟨g3, rfl, z3⟩ := (I7.more k7).at (i := k) (by omega)
              obtain ⟨g5, rfl, z5⟩ := (J7.more k7).at (i := k) (by omega)
              obtain ⟨f0, f1, f2, f3⟩ := (L7.more k7).c
              have hv := hval k hkl
              have hkl' : Hid (k < C) := hkl
              have dk : (k : Int) < (C : Int) := by omega
              have dkw := wrapI (x := (k : Int) + 1) (by omega) (by omega)
              have dks := wrapI (x := (k : Int) - h 1) (by omega) (by omega)
              clear hval I7 J7 hkl
              by_cases q1 : h 1 ≤ (k : Int)
              · have q1d : decide (h 1 ≤ (k : Int)) = true := decide_eq_true q1
                by_cases q2 : (k : Int) - h 1 < h 2
                · have q2d : decide ((k : Int) - h 1 < h 2) = true := decide_eq_true q2
                  rw [if_pos ⟨q1, q2⟩, if_pos (show h 0 = 0 from c0')] at hv
                  rw [hv] at z5
                  have hph := hph c0'
                  have ea : h 3 + (k : Int) - h 1 = h 3 + ((k : Int) - h 1) := by omega
                  have dx := wrapI (x := h 3 + (k : Int)) (by omega) (by omega)
                  have dx2 : IntKind.i64.wrap (h 3 + (k : Int) - h 1) = h 3 + ((k : Int) - h 1) := (wrapI (by omega) (by omega)).trans ea
                  clear hv ea
                  go_upto_region 22 with fail
                  go_quiet (fail)
                  have k8 := k7.drewN nq
                  clear k7 f0 f1 f2 f3 z3 z5
                  go_wp2_with fail
                  go_roundw
                  case rel => exact ⟨k + 1, hkl', by go_num, k8⟩
                  case measure => have : k < C := hkl'; simp [intOf]; omega
                · have q2d : decide ((k : Int) - h 1 < h 2) = false := decide_eq_false q2
                  rw [if_neg (fun e => q2 e.2)] at hv
                  rw [hv] at z5
                  clear hv
                  generalize List.getD t k (-1) = X at z3 z5
                  go_upto_region 22 with fail
                  go_quiet (fail)
                  have k8 := k7.drewN nq
                  clear k7 f0 f1 f2 f3 z3 z5
                  go_wp2_with fail
                  go_roundw
                  case rel => exact ⟨k + 1, hkl', by go_num, k8⟩
                  case measure => have : k < C := hkl'; simp [intOf]; omega
              · have q1d : decide (h 1 ≤ (k : Int)) = false := decide_eq_false q1
                rw [if_neg (fun e => q1 e.1)] at hv
                rw [hv] at z5
                clear hv
                generalize List.getD t k (-1) = X at z3 z5
                go_upto_region 22 with fail
                go_quiet (fail)
                have k8 := k7.drewN nq
                clear k7 f0 f1 f2 f3 z3 z5
                go_wp2_with fail
                go_roundw
                case rel => exact ⟨k + 1, hkl', by go_num, k8⟩
                case measure => have : k < C := hkl'; simp [intOf]; omega
            · have dk : ¬ (k : Int) < (C : Int) := by omega
              have M8 := M7.more k7
              obtain ⟨f0, f1, f2, f3⟩ := (L7.more k7).c
              have hrt := right9 wr (C : Int) (h 1) (h 2) (by omega)
              rw [ok] at hrt
              clear hval I7 J7 hkl M7 L7 k7
              go_wp2_with (go_at_call 28; refine hrt.mono ?_; rintro e wz ⟨rfl, ez⟩; have ez := ez.symm; subst ez)
              go_roundw
              case rel => exact ⟨i + 1, t', hlt', by go_num, M8⟩
              case measure => have : i < len := hlt'; simp [intOf]; omega
        · have crb : (r == 0) = false := by simp [cr]
          have e5 := hC.no cr
          subst e5
          clear hC cr
          go_loopw [14] (fun v wx => ∃ k : Nat, k ≤ C ∧ v = .int .i64 (k : Int) ∧ Keep (fun _ => False) w6 wx) (fun v _ => C - (intOf v).toNat)
          case atStart => exact ⟨0, by omega, rfl, Keep.refl _ _⟩
          case round =>
            obtain ⟨k, hk, rfl, k7⟩ := hrel
            by_cases hkl : k < C
            · obtain ⟨g3, rfl, z3⟩ := (I7.more k7).at (i := k) (by omega)
              obtain ⟨g5, rfl, z5⟩ := (J7.more k7).at (i := k) (by omega)
              obtain ⟨f0, f1, f2, f3⟩ := (L7.more k7).c
              have hkl' : Hid (k < C) := hkl
              have dk : (k : Int) < (C : Int) := by omega
              have dkw := wrapI (x := (k : Int) + 1) (by omega) (by omega)
              have hv : True := trivial
              clear I7 J7 hkl
              clear hv
              generalize List.getD _ k (-1) = X at z3 z5
              go_upto_region 22 with fail
              go_quiet (fail)
              have k8 := k7.drewN nq
              clear k7 f0 f1 f2 f3 z3 z5
              go_wp2_with fail
              go_roundw
              case rel => exact ⟨k + 1, hkl', by go_num, k8⟩
              case measure => have : k < C := hkl'; simp [intOf]; omega
            · have dk : ¬ (k : Int) < (C : Int) := by omega
              have M8 := M7.more k7
              obtain ⟨f0, f1, f2, f3⟩ := (L7.more k7).c
              clear I7 J7 hkl M7 L7 k7
              go_wp2_with fail
              go_roundw
              case rel => exact ⟨i + 1, _, hlt', by go_num, M8⟩
              case measure => have : i < len := hlt'; simp [intOf]; omega
      · have cb : (h 0 == 0) = false := by simp [c0]
        have cbn : (h 0 != 0) = true := by simp [c0]
        obtain ⟨r, t', hC, hcall⟩ := M3.actClear h hh c0
        have c0' : Hid (¬ h 0 = 0) := c0
        clear c0
        go_upto_region 15 with (go_at_call 10; refine hcall.mono ?_; rintro e w4 ⟨rfl, M5, k4⟩)
        have L5 : Lact w4 g h := Blk.keep L3 k4 oG
        have I5 := I3.keep k4 o3
        have tl3 := M3.fm.tl
        clear hcall k4 L3 I3 M3 f0 f1 f2 f3 o3 oG
        have htb := ftable M5.fm
        go_upto_region 16 with (go_at_call 27; refine htb.mono ?_; rintro e w5 ⟨a5, c5, rfl, R5⟩)
        have M6 := M5.more R5.keep
        have L6 := L5.more R5.keep
        have I6 := I5.more R5.keep
        have J6 := R5.is
        have tl5 := M6.fm.tl
        have hc5 : C ≤ c5 := by have := J6.1; omega
        have hct := fcount M6.fm
        have hlen := M6.fm.len
        generalize (refR t' C).length = n' at hct hlen
        have dn : ¬ (N : Int) < (n' : Int) := by omega
        clear htb R5 M5 L5 I5
        go_upto_region 18 with (go_at_call 11; refine hct.mono ?_; rintro e w6 ⟨rfl, k6⟩)
        have M7 := M6.more k6
        have L7 := L6.more k6
        have I7 := I6.more k6
        have J7 := J6.more k6
        clear hct k6 M6 L6 I6 J6 hlen dn
        go_wp2_with fail
        by_cases cr : r = 0
        · obtain ⟨ok, hph, hval⟩ := hC.ok cr
          obtain ⟨o1, o2, o3⟩ := okR_iff.1 ok
          have crb : (r == 0) = true := by simp [cr]
          clear hC
          go_loopw [14] (fun v wx => ∃ k : Nat, k ≤ C ∧ v = .int .i64 (k : Int) ∧ Keep (fun _ => False) w6 wx) (fun v _ => C - (intOf v).toNat)
          case atStart => exact ⟨0, by omega, rfl, Keep.refl _ _⟩
          case round =>
            obtain ⟨k, hk, rfl, k7⟩ := hrel
            by_cases hkl : k < C
            · obtain ⟨g3, rfl, z3⟩ := (I7.more k7).at (i := k) (by omega)
              obtain ⟨g5, rfl, z5⟩ := (J7.more k7).at (i := k) (by omega)
              obtain ⟨f0, f1, f2, f3⟩ := (L7.more k7).c
              have hv := hval k hkl
              have hkl' : Hid (k < C) := hkl
              have dk : (k : Int) < (C : Int) := by omega
              have dkw := wrapI (x := (k : Int) + 1) (by omega) (by omega)
              have dks := wrapI (x := (k : Int) - h 1) (by omega) (by omega)
              clear hval I7 J7 hkl
              by_cases q1 : h 1 ≤ (k : Int)
              · have q1d : decide (h 1 ≤ (k : Int)) = true := decide_eq_true q1
                by_cases q2 : (k : Int) - h 1 < h 2
                · have q2d : decide ((k : Int) - h 1 < h 2) = true := decide_eq_true q2
                  rw [if_pos ⟨q1, q2⟩, if_neg (show ¬ h 0 = 0 from c0')] at hv
                  rw [hv] at z5
                  clear hv
                  go_upto_region 22 with fail
                  go_quiet (fail)
                  have k8 := k7.drewN nq
                  clear k7 f0 f1 f2 f3 z3 z5
                  go_wp2_with fail
                  go_roundw
                  case rel => exact ⟨k + 1, hkl', by go_num, k8⟩
                  case measure => have : k < C := hkl'; simp [intOf]; omega
                · have q2d : decide ((k : Int) - h 1 < h 2) = false := decide_eq_false q2
                  rw [if_neg (fun e => q2 e.2)] at hv
                  rw [hv] at z5
                  clear hv
                  generalize List.getD t k (-1) = X at z3 z5
                  go_upto_region 22 with fail
                  go_quiet (fail)
                  have k8 := k7.drewN nq
                  clear k7 f0 f1 f2 f3 z3 z5
                  go_wp2_with fail
                  go_roundw
                  case rel => exact ⟨k + 1, hkl', by go_num, k8⟩
                  case measure => have : k < C := hkl'; simp [intOf]; omega
              · have q1d : decide (h 1 ≤ (k : Int)) = false := decide_eq_false q1
                rw [if_neg (fun e => q1 e.1)] at hv
                rw [hv] at z5
                clear hv
                generalize List.getD t k (-1) = X at z3 z5
                go_upto_region 22 with fail
                go_quiet (fail)
                have k8 := k7.drewN nq
                clear k7 f0 f1 f2 f3 z3 z5
                go_wp2_with fail
                go_roundw
                case rel => exact ⟨k + 1, hkl', by go_num, k8⟩
                case measure => have : k < C := hkl'; simp [intOf]; omega
            · have dk : ¬ (k : Int) < (C : Int) := by omega
              have M8 := M7.more k7
              obtain ⟨f0, f1, f2, f3⟩ := (L7.more k7).c
              have hrt := right9 wr (C : Int) (h 1) (h 2) (by omega)
              rw [ok] at hrt
              clear hval I7 J7 hkl M7 L7 k7
              go_wp2_with (go_at_call 28; refine hrt.mono ?_; rintro e wz ⟨rfl, ez⟩; have ez := ez.symm; subst ez)
              go_roundw
              case rel => exact ⟨i + 1, t', hlt', by go_num, M8⟩
              case measure => have : i < len := hlt'; simp [intOf]; omega
        · have crb : (r == 0) = false := by simp [cr]
          have e5 := hC.no cr
          subst e5
          clear hC cr
          go_loopw [14] (fun v wx => ∃ k : Nat, k ≤ C ∧ v = .int .i64 (k : Int) ∧ Keep (fun _ => False) w6 wx) (fun v _ => C - (intOf v).toNat)
          case atStart => exact ⟨0, by omega, rfl, Keep.refl _ _⟩
          case round =>
            obtain ⟨k, hk, rfl, k7⟩ := hrel
            by_cases hkl : k < C
            · obtain ⟨g3, rfl, z3⟩ := (I7.more k7).at (i := k) (by omega)
              obtain ⟨g5, rfl, z5⟩ := (J7.more k7).at (i := k) (by omega)
              obtain ⟨f0, f1, f2, f3⟩ := (L7.more k7).c
              have hkl' : Hid (k < C) := hkl
              have dk : (k : Int) < (C : Int) := by omega
              have dkw := wrapI (x := (k : Int) + 1) (by omega) (by omega)
              have hv : True := trivial
              clear I7 J7 hkl
              clear hv
              generalize List.getD _ k (-1) = X at z3 z5
              go_upto_region 22 with fail
              go_quiet (fail)
              have k8 := k7.drewN nq
              clear k7 f0 f1 f2 f3 z3 z5
              go_wp2_with fail
              go_roundw
              case rel => exact ⟨k + 1, hkl', by go_num, k8⟩
              case measure => have : k < C := hkl'; simp [intOf]; omega
            · have dk : ¬ (k : Int) < (C : Int) := by omega
              have M8 := M7.more k7
              obtain ⟨f0, f1, f2, f3⟩ := (L7.more k7).c
              clear I7 J7 hkl M7 L7 k7
              go_wp2_with fail
              go_roundw
              case rel => exact ⟨i + 1, _, hlt', by go_num, M8⟩
              case measure => have : i < len := hlt'; simp [intOf]; omega
    · have di : ¬ (i : Int) < (len : Int) := by omega
      have HK := M1.keep
      clear hA hlt M1
      go_wp2_with fail
      go_ret
      exact ⟨rfl, HK⟩
theorem keeps_walk (W : World) (cap most : Int) {a : Option Addr} {len c : Nat} (hA : Acts W a len c) :
    Calls Try.prog 6 #[.int .i64 cap, .int .i64 most, .slice a len c] W fun e w' => e = .returned (.bool true) ∧ Below W.heap.size W w' :=
  (keeps_any hA).mono (by rintro e w' ⟨h1, h2⟩; exact ⟨h1, h2.below (Nat.le_refl _) (fun _ e => e.elim)⟩)
end Tg
end Go.Proofs.Ytbdankhlbepjoaa
