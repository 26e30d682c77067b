/-
  The flat map made, a range set, a range cleared.
-/
import Derived.Test.YtbdankhlbepjoaaFlatB
namespace Go.Proofs.Ytbdankhlbepjoaa
open Go.ChangeShapes Go.WideShapes Go.ChangeAt Go.RowKit
namespace Tg

set_option maxRecDepth 100000 in
set_option maxHeartbeats 1000000 in
theorem newF_any {w : World} {C N : Nat} (c1 : 1 ≤ C) (c2 : C ≤ 512) (n1 : 1 ≤ N) (n2 : N ≤ 512) :
    Calls Try.prog 8 #[.int .i64 (C : Int), .int .i64 (N : Int)] w fun e w' => ∃ q, e = .returned (.tuple #[.pointer (some ⟨q, 0, none⟩), .int .i64 0]) ∧ Fm w.heap.size w' q N C (List.replicate C (-1)) ∧ Keep (fun _ => False) w w' := by
  have hmk := make_ints C c2 w
  have R0 : Ri w (w.alloc (.cells (madeCells #[.int .i64 0] C) 3)) (some ⟨w.heap.size, 0, none⟩) C (nw C 0) := ri_made w C c2
  generalize w.alloc (.cells (madeCells #[.int .i64 0] C) 3) = w1 at hmk R0
  generalize hG : w.heap.size = G at hmk R0
  have hG' : Hid (w.heap.size = G) := hG
  have d1 : ¬ (C : Int) < 1 := by omega
  have d2 : ¬ (512 : Int) < C := by omega
  have d3 : ¬ (N : Int) < 1 := by omega
  have d4 : ¬ (512 : Int) < N := by omega
  clear hG
  go_enter Try.func8, Try.ntmps8
  go_wp2_with fail
  clear hmk
  go_loopw [26] (fun v wx => ∃ i : Nat, i ≤ C ∧ v = .int .i64 (i : Int) ∧ Ri w wx (some ⟨G, 0, none⟩) C (nw C i)) (fun v _ => C - (intOf v).toNat)
  case atStart => exact ⟨0, by omega, rfl, R0⟩
  case round =>
    clear R0
    obtain ⟨i, hi, rfl, R1⟩ := hrel
    by_cases hlt : i < C
    · obtain ⟨g, eg, c0⟩ := R1.is.at (i := i) (by rw [nw_len]; exact hlt)
      injection eg with eg; injection eg with eg; subst eg
      have z0 := R1.fz i
      have R2 := R1.set i (-1)
      have di : (i : Int) < (C : Int) := by omega
      have dw := wrapI (x := (i : Int) + 1) (by omega) (by omega)
      have hlt' : Hid (i < C) := hlt
      clear hlt R1
      go_wp2_with fail
      go_roundw
      case rel => exact ⟨i + 1, hlt', by go_num, R2⟩
      case measure => have : i < C := hlt'; simp [intOf]; omega
    · have di : ¬ (i : Int) < (C : Int) := by omega
      have ei : i = C := by omega
      rw [ei, nw_end] at R1
      have k2 : Keep (fun _ => False) wr (wr.alloc (.cells #[.int .i64 (N : Int), .slice (some ⟨G, 0, none⟩) C C] 58)) := (Keep.refl _ _).alloc _
      have hgb := R1.block rfl
      have hGe : w.heap.size = G := hG'
      have F : Fm G (wr.alloc (.cells #[.int .i64 (N : Int), .slice (some ⟨G, 0, none⟩) C C] 58)) wr.heap.size N C (List.replicate C (-1)) :=
        ⟨⟨some ⟨G, 0, none⟩, C, blk_alloc wr _ 58 2 _ (fun j hj => by
            have : j = 0 ∨ j = 1 := by omega
            rcases this with rfl | rfl <;> rfl), (R1.more k2).is, fun g e => by
            injection e with e; injection e with e
            subst e
            have := k2.size
            exact ⟨by omega, by omega, by omega⟩⟩, by have := R1.keep.size; omega, by simp, tab_nil C, c1, c2, n1, n2, by
          have := (of_nil C).runs
          rw [List.length_replicate] at this
          rw [← this]; simp⟩
      have K2 := R1.keep.trans k2
      clear hlt ei R1 k2 hgb hGe
      go_wp2_with fail
      go_ret2
      exact ⟨_, rfl, F, K2⟩
set_option maxRecDepth 100000 in
theorem newF_no {w : World} {c n : Int} (h : c < 1 ∨ 512 < c ∨ n < 1 ∨ 512 < n) :
    Calls Try.prog 8 #[.int .i64 c, .int .i64 n] w fun e w' => e = .returned (.tuple #[.pointer none, .int .i64 1]) ∧ w' = w := by
  by_cases h1 : c < 1
  · clear h
    go_enter Try.func8, Try.ntmps8
    go_wp2_with fail
    go_ret2
    exact ⟨rfl, rfl⟩
  by_cases h2 : 512 < c
  · clear h
    go_enter Try.func8, Try.ntmps8
    go_wp2_with fail
    go_ret2
    exact ⟨rfl, rfl⟩
  by_cases h3 : n < 1
  · clear h
    go_enter Try.func8, Try.ntmps8
    go_wp2_with fail
    go_ret2
    exact ⟨rfl, rfl⟩
  have h4 : 512 < n := by omega
  clear h
  go_enter Try.func8, Try.ntmps8
  go_wp2_with fail
  go_ret2
  exact ⟨rfl, rfl⟩

theorem Fid.first {B : Nat} {wa wb : World} {q N C : Nat} {u : List Int} {e : Ending} {w' : World} (h : Fid B wb q N C u e w') (k : Keep (fun _ => False) wa wb) : Fid B wa q N C u e w' := by
  rcases h with ⟨h1, h2, h3, h4⟩ | ⟨h1, h2, h3⟩
  · exact Or.inl ⟨h1, h2, h3, (k.mono (fun _ _ e => e.elim)).trans h4⟩
  · exact Or.inr ⟨h1, h2, k.trans h3⟩
/-- What it answers is known ahead. -/
theorem Fid.code {B : Nat} {wa wb : World} {q N C : Nat} {u : List Int} {f : FuncId} {vs : Array Value} (h : Calls Try.prog f vs wb (Fid B wa q N C u)) :
    ∃ r : Int, Calls Try.prog f vs wb fun e w' => e = .returned (.int .i64 r) ∧ Fid B wa q N C u (.returned (.int .i64 r)) w' := by
  by_cases c : (refR u C).length ≤ N
  · refine ⟨0, h.mono ?_⟩
    rintro e w' (⟨h1, rfl, h3⟩ | ⟨h1, h2⟩)
    · exact ⟨rfl, Or.inl ⟨h1, rfl, h3⟩⟩
    · omega
  · refine ⟨5, h.mono ?_⟩
    rintro e w' (⟨h1, h2⟩ | ⟨h1, rfl, h3⟩)
    · omega
    · exact ⟨rfl, Or.inr ⟨h1, rfl, h3⟩⟩
/-- A row made since the map was is apart from it. -/
theorem Fm.apart {B : Nat} {wa w' : World} {q N C : Nat} {t u : List Int} {a' : Option Addr} {c' : Nat} (h : Fm B wa q N C t) (R : Ri wa w' a' c' u) : ∀ g, a' = some ⟨g, 0, none⟩ → B ≤ g ∧ g ≠ q ∧ g < w'.heap.size := fun g e => by
  have h1 := h.lt
  have h2 := h.bq
  have h3 := R.block e
  omega
set_option maxRecDepth 100000 in
set_option maxHeartbeats 1000000 in
theorem fset {B : Nat} {wa : World} {q N C : Nat} {t : List Int} (h : Fm B wa q N C t) {L M : Nat} {phys : Int} (hM : 1 ≤ M) (hr : L + M ≤ C) (p1 : 0 ≤ phys) (p2 : phys ≤ 1048576) :
    Calls Try.prog 9 #[.pointer (some ⟨q, 0, none⟩), .int .i64 (L : Int), .int .i64 (M : Int), .int .i64 phys] wa (Fid B wa q N C (putN t L phys M)) := by
  have hrt := fright h (L : Int) (M : Int) (by have := h.cap2; omega)
  rw [okR_iff.2 ⟨by omega, by omega, by omega⟩] at hrt
  have htb := ftable h
  have hcap := h.cap2
  have htl := h.tl
  have d1 : ¬ phys < 0 := by omega
  have d2 : ¬ 1048576 < phys := by omega
  have hput : ∀ i, putN t L phys (i + 1) = (putN t L phys i).set (L + i) (phys + i) := fun i => by rw [putN, if_neg d1]
  have hfin : ∀ w1 a' c', Ri wa w1 a' c' (putN t L phys M) → Calls Try.prog 32 #[.pointer (some ⟨q, 0, none⟩), .slice a' C c'] w1 (Fid B wa q N C (putN t L phys M)) := fun w1 a' c' R =>
    (ftake (h.more R.keep) R.is (h.apart R) (by rw [putN_len]; exact htl) (putN_tab h.tab (by omega) (by omega) p2)).mono (fun _ _ hD => hD.first R.keep)
  have hpl : ∀ i, (putN t L phys i).length = C := fun i => by rw [putN_len]; exact htl
  have hcc : ∀ w1 a' c' i, Ri wa w1 a' c' (putN t L phys i) → C ≤ c' := fun w1 a' c' i R => by have := R.is.1; rw [hpl] at this; exact this
  have R0' : ∀ w1 a' c', Ri wa w1 a' c' t → Ri wa w1 a' c' (putN t L phys 0) := fun _ _ _ R => R
  clear h htl
  go_enter Try.func9, Try.ntmps9
  go_wp2_with (first | (go_at_call 31; refine hrt.mono ?_; rintro e w1 ⟨rfl, e1⟩; have e1 := e1.symm; subst e1) | (go_at_call 27; refine htb.mono ?_; rintro e w2 ⟨a', c', rfl, R2⟩))
  have R3 := R0' _ _ _ R2
  have hc' := hcc _ _ _ _ R3
  clear hrt htb R2 R0' hcc
  go_loopw [27] (fun v wx => ∃ i : Nat, i ≤ M ∧ v = .int .i64 (i : Int) ∧ Ri wa wx a' c' (putN t L phys i)) (fun v _ => M - (intOf v).toNat)
  case atStart => exact ⟨0, by omega, rfl, R3⟩
  case round =>
    clear R3
    obtain ⟨i, hi, rfl, R1⟩ := hrel
    by_cases hlt : i < M
    · obtain ⟨g, rfl, c0⟩ := R1.is.at (i := L + i) (by rw [hpl]; omega)
      have z0 := R1.fz (L + i)
      have R2 := R1.set (L + i) (phys + i)
      rw [← hput] at R2
      have di : (i : Int) < (M : Int) := by omega
      have dw := wrapI (x := (i : Int) + 1) (by omega) (by omega)
      have ds := wrapI (x := (L : Int) + i) (by omega) (by omega)
      have dsl : (L : Int) + i < (C : Int) := by omega
      have ds0 : ¬ (L : Int) + i < 0 := by omega
      have dp := wrapI (x := phys + i) (by omega) (by omega)
      have hlt' : Hid (i < M) := hlt
      clear hlt R1 hput hfin hpl
      go_wp2_with fail
      go_roundw
      case rel => exact ⟨i + 1, hlt', by go_num, R2⟩
      case measure => have : i < M := hlt'; simp [intOf]; omega
    · have di : ¬ (i : Int) < (M : Int) := by omega
      have ei : i = M := by omega
      rw [ei] at R1
      obtain ⟨r, hT⟩ := Fid.code (hfin _ _ _ R1)
      clear hlt ei hput hfin hpl R1
      go_wp2_with (go_at_call 32; refine hT.mono ?_; rintro e w3 ⟨rfl, hD⟩)
      go_ret
      exact hD
set_option maxRecDepth 100000 in
set_option maxHeartbeats 1000000 in
theorem fclear {B : Nat} {wa : World} {q N C : Nat} {t : List Int} (h : Fm B wa q N C t) {L M : Nat} (hM : 1 ≤ M) (hr : L + M ≤ C) :
    Calls Try.prog 10 #[.pointer (some ⟨q, 0, none⟩), .int .i64 (L : Int), .int .i64 (M : Int)] wa (Fid B wa q N C (putN t L (-1) M)) := by
  have hrt := fright h (L : Int) (M : Int) (by have := h.cap2; omega)
  rw [okR_iff.2 ⟨by omega, by omega, by omega⟩] at hrt
  have htb := ftable h
  have hcap := h.cap2
  have htl := h.tl
  have hput : ∀ i, putN t L (-1) (i + 1) = (putN t L (-1) i).set (L + i) (-1) := fun i => by rw [putN, if_pos (by omega)]
  have hfin : ∀ w1 a' c', Ri wa w1 a' c' (putN t L (-1) M) → Calls Try.prog 32 #[.pointer (some ⟨q, 0, none⟩), .slice a' C c'] w1 (Fid B wa q N C (putN t L (-1) M)) := fun w1 a' c' R =>
    (ftake (h.more R.keep) R.is (h.apart R) (by rw [putN_len]; exact htl) (putN_tab h.tab (by omega) (by omega) (by omega))).mono (fun _ _ hD => hD.first R.keep)
  have hpl : ∀ i, (putN t L (-1) i).length = C := fun i => by rw [putN_len]; exact htl
  have hcc : ∀ w1 a' c' i, Ri wa w1 a' c' (putN t L (-1) i) → C ≤ c' := fun w1 a' c' i R => by have := R.is.1; rw [hpl] at this; exact this
  have R0' : ∀ w1 a' c', Ri wa w1 a' c' t → Ri wa w1 a' c' (putN t L (-1) 0) := fun _ _ _ R => R
  clear h htl
  go_enter Try.func10, Try.ntmps10
  go_wp2_with (first | (go_at_call 31; refine hrt.mono ?_; rintro e w1 ⟨rfl, e1⟩; have e1 := e1.symm; subst e1) | (go_at_call 27; refine htb.mono ?_; rintro e w2 ⟨a', c', rfl, R2⟩))
  have R3 := R0' _ _ _ R2
  have hc' := hcc _ _ _ _ R3
  clear hrt htb R2 R0' hcc
  go_loopw [17] (fun v wx => ∃ i : Nat, i ≤ M ∧ v = .int .i64 (i : Int) ∧ Ri wa wx a' c' (putN t L (-1) i)) (fun v _ => M - (intOf v).toNat)
  case atStart => exact ⟨0, by omega, rfl, R3⟩
  case round =>
    clear R3
    obtain ⟨i, hi, rfl, R1⟩ := hrel
    by_cases hlt : i < M
    · obtain ⟨g, rfl, c0⟩ := R1.is.at (i := L + i) (by rw [hpl]; omega)
      have z0 := R1.fz (L + i)
      have R2 := R1.set (L + i) (-1)
      rw [← hput] at R2
      have di : (i : Int) < (M : Int) := by omega
      have dw := wrapI (x := (i : Int) + 1) (by omega) (by omega)
      have ds := wrapI (x := (L : Int) + i) (by omega) (by omega)
      have dsl : (L : Int) + i < (C : Int) := by omega
      have ds0 : ¬ (L : Int) + i < 0 := by omega
      have hlt' : Hid (i < M) := hlt
      clear hlt R1 hput hfin hpl
      go_wp2_with fail
      go_roundw
      case rel => exact ⟨i + 1, hlt', by go_num, R2⟩
      case measure => have : i < M := hlt'; simp [intOf]; omega
    · have di : ¬ (i : Int) < (M : Int) := by omega
      have ei : i = M := by omega
      rw [ei] at R1
      obtain ⟨r, hT⟩ := Fid.code (hfin _ _ _ R1)
      clear hlt ei hput hfin hpl R1
      go_wp2_with (go_at_call 32; refine hT.mono ?_; rintro e w3 ⟨rfl, hD⟩)
      go_ret
      exact hD
set_option maxRecDepth 100000 in
theorem fset_no {B : Nat} {wa : World} {q N C : Nat} {t : List Int} (h : Fm B wa q N C t) {lba n phys : Int} (hl : lba ≤ 9223372036854775807) (hno : okR (C : Int) lba n = false ∨ phys < 0 ∨ 1048576 < phys) :
    Calls Try.prog 9 #[.pointer (some ⟨q, 0, none⟩), .int .i64 lba, .int .i64 n, .int .i64 phys] wa fun e w' => e = .returned (.int .i64 1) ∧ w' = wa := by
  have hrt := fright h lba n hl
  clear h
  cases ho : okR (C : Int) lba n with
  | false =>
    rw [ho] at hrt
    clear hno
    go_enter Try.func9, Try.ntmps9
    go_wp2_with (go_at_call 31; refine hrt.mono ?_; rintro e w1 ⟨rfl, e1⟩; have e1 := e1.symm; subst e1)
    go_ret
    exact ⟨rfl, rfl⟩
  | true =>
    rw [ho] at hrt
    have hp := hno.resolve_left (by rw [ho]; simp)
    by_cases c1 : phys < 0
    · clear hno hp
      go_enter Try.func9, Try.ntmps9
      go_wp2_with (go_at_call 31; refine hrt.mono ?_; rintro e w1 ⟨rfl, e1⟩; have e1 := e1.symm; subst e1)
      go_ret
      exact ⟨rfl, rfl⟩
    · have c2 : 1048576 < phys := by omega
      clear hno hp
      go_enter Try.func9, Try.ntmps9
      go_wp2_with (go_at_call 31; refine hrt.mono ?_; rintro e w1 ⟨rfl, e1⟩; have e1 := e1.symm; subst e1)
      go_ret
      exact ⟨rfl, rfl⟩
set_option maxRecDepth 100000 in
theorem fclear_no {B : Nat} {wa : World} {q N C : Nat} {t : List Int} (h : Fm B wa q N C t) {lba n : Int} (hl : lba ≤ 9223372036854775807) (ho : okR (C : Int) lba n = false) :
    Calls Try.prog 10 #[.pointer (some ⟨q, 0, none⟩), .int .i64 lba, .int .i64 n] wa fun e w' => e = .returned (.int .i64 1) ∧ w' = wa := by
  have hrt := fright h lba n hl
  rw [ho] at hrt
  clear h ho
  go_enter Try.func10, Try.ntmps10
  go_wp2_with (go_at_call 31; refine hrt.mono ?_; rintro e w1 ⟨rfl, e1⟩; have e1 := e1.symm; subst e1)
  go_ret
  exact ⟨rfl, rfl⟩
end Tg
end Go.Proofs.Ytbdankhlbepjoaa
