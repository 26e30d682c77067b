/-
  A map beside the document's own list of pages: a change of both, and the look at both.
-/
import Derived.Test.YtobljchpphcolaaIsW
namespace Go.Proofs.Ytobljchpphcolaa
open Go.ChangeShapes Go.WideShapes Go.ChangeAt Go.RowKit
namespace Tg

/-- A map, and a list of pages whose runs it has. -/
structure Pl (W wx : World) (q b p k N C : Nat) (ta : Option Addr) (tc : Nat) : Prop where
  ex : ∃ t m, Mp W wx q b p k N C m ∧ Is wx ta tc t ∧ Tab t ∧ Of t m ∧ t.length = C
  ap : ∀ g, ta = some ⟨g, 0, none⟩ → ¬ Own3 b p k g
theorem Pl.more {W wx w' : World} {q b p k N C : Nat} {ta : Option Addr} {tc : Nat} (h : Pl W wx q b p k N C ta tc) (hk : Keep (fun _ => False) wx w') : Pl W w' q b p k N C ta tc := by
  obtain ⟨t, m, h1, h2, h3⟩ := h.ex
  exact ⟨⟨t, m, h1.more hk, h2.more hk, h3⟩, h.ap⟩
theorem Pl.keep {W wx : World} {q b p k N C : Nat} {ta : Option Addr} {tc : Nat} (h : Pl W wx q b p k N C ta tc) : Keep (fun _ => False) W wx := by
  obtain ⟨t, m, h1, -⟩ := h.ex
  exact h1.keep
theorem Pl.is {W wx : World} {q b p k N C : Nat} {ta : Option Addr} {tc : Nat} (h : Pl W wx q b p k N C ta tc) {lba : Int} (n : Int) (hat : -9223372036854775808 ≤ lba ∧ lba ≤ 9223372036854775807) :
    Calls Try.prog 15 #[.pointer (some ⟨q, 0, none⟩), .slice ta C tc, .int .i64 (N : Int), .int .i64 lba, .int .i64 n] wx fun e w' => e = .returned (.bool true) ∧ Keep (fun _ => False) wx w' := by
  obtain ⟨t, m, h1, h2, h3, h4, h5⟩ := h.ex
  exact is_any h1 h2 h3 h4 h5 hat
theorem of_nil (C : Nat) : Of (List.replicate C (-1)) [] := by
  refine ⟨Form.nil, fun s => ?_⟩
  unfold entry
  rw [if_neg]
  · rfl
  · rintro ⟨h1, h2, h3⟩
    simp at h2
    have e : (List.replicate C (-1 : Int)).getD s.toNat (-1) = -1 := by
      simp only [List.getD_eq_getElem?_getD, List.getElem?_replicate]
      split <;> rfl
    omega
theorem tab_nil (C : Nat) : Tab (List.replicate C (-1)) := fun i => by
  have e : (List.replicate C (-1 : Int)).getD i (-1) = -1 := by
    simp only [List.getD_eq_getElem?_getD, List.getElem?_replicate]
    split <;> rfl
  omega
theorem Pl.new {W w1 w' : World} {q b p k N C : Nat} {a : Option Addr} {c : Nat} (h : Mp W w1 q b p k N C []) (hr : Ri w1 w' a c (List.replicate C (-1))) : Pl W w' q b p k N C a c :=
  ⟨⟨_, [], h.more hr.keep, hr.is, tab_nil C, of_nil C, by simp⟩, fun g e => h.out (hr.block e).1⟩

/-- What both answer of a change, and that they go on alike. -/
def Both (W wx : World) (q b p k N C : Nat) (vs : Array Value) (f : FuncId) (args : Array Value) (bad : Int) : Prop :=
  Calls Try.prog 14 vs wx fun e w1 => ∃ a' c', e = .returned (.tuple #[.slice a' C c', .int .i64 bad]) ∧ Keep (fun _ => False) wx w1 ∧
    Calls Try.prog f args w1 fun e w2 => e = .returned (.int .i64 bad) ∧ Pl W w2 q b p k N C a' c' ∧ Keep (Own3 b p k) w1 w2

/-- A change that both make, or both refuse for the runs' number. -/
theorem both_of {W wx : World} {q b p k N C : Nat} {ta : Option Addr} {tc : Nat} {vs args : Array Value} {f : FuncId} {t u : List Int} {m m' : List Rn}
    (h1 : Mp W wx q b p k N C m) (h2 : Is wx ta tc t) (h3 : Tab t) (h4 : Of t m) (h5 : t.length = C) (ap : ∀ g, ta = some ⟨g, 0, none⟩ → ¬ Own3 b p k g)
    (hu : Tab u) (ho : Of u m') (hul : u.length = C) (hset : Calls Try.prog 14 vs wx (Sat wx ta tc t u (N : Int)))
    (hdo : ∀ w1, Mp W w1 q b p k N C m → Calls Try.prog f args w1 (Did W w1 q b p k N C m')) : ∃ bad, Both W wx q b p k N C vs f args bad := by
  have hE : refR u u.length = m' := ho.runs.symm
  by_cases c : m'.length ≤ N
  · refine ⟨0, hset.mono ?_⟩
    rintro e w1 (⟨-, a', c', rfl, R⟩ | ⟨hf, -⟩)
    · refine ⟨a', c', by rw [h5], R.keep, (hdo w1 (h1.more R.keep)).mono ?_⟩
      intro e w2 hD
      obtain ⟨he, M2, k2⟩ := hD.yes c
      have ap' : ∀ g, a' = some ⟨g, 0, none⟩ → ¬ Own3 b p k g := fun g e => h1.out (R.block e).1
      exact ⟨he, ⟨⟨u, m', M2, R.is.keep k2 ap', hu, ho, hul⟩, ap'⟩, k2⟩
    · rw [hE] at hf; omega
  · refine ⟨5, hset.mono ?_⟩
    rintro e w1 (⟨hf, -⟩ | ⟨-, rfl, k1⟩)
    · rw [hE] at hf; omega
    · refine ⟨ta, tc, by rw [h5], k1, (hdo w1 (h1.more k1)).mono ?_⟩
      intro e w2 hD
      obtain ⟨he, k2⟩ := hD.full (by omega)
      exact ⟨he, ⟨⟨t, m, (h1.more k1).more k2, (h2.more k1).more k2, h3, h4, h5⟩, ap⟩, k2.mono (fun _ _ e => e.elim)⟩

theorem Pl.set {W wx : World} {q b p k N C : Nat} {ta : Option Addr} {tc : Nat} (h : Pl W wx q b p k N C ta tc) (f : Nat → Int) (hf : ∀ j, -9223372036854775808 ≤ f j ∧ f j ≤ 9223372036854775807) :
    ∃ bad, Both W wx q b p k N C #[.slice ta C tc, .int .i64 (N : Int), .int .i64 (f 1), .int .i64 (f 2), .int .i64 (f 3), .bool false] 10 #[.pointer (some ⟨q, 0, none⟩), .int .i64 (f 1), .int .i64 (f 2), .int .i64 (f 3)] bad := by
  obtain ⟨t, m, h1, h2, h3, h4, h5⟩ := h.ex
  have hc1 := h1.cap1
  have hc2 := h1.cap2
  by_cases c : okR (C : Int) (f 1) (f 2) = true ∧ 0 ≤ f 3 ∧ f 3 ≤ 1048576
  · obtain ⟨c1, c2, c3⟩ := okR_iff.1 c.1
    obtain ⟨L, eL⟩ : ∃ L : Nat, f 1 = (L : Int) := ⟨(f 1).toNat, by omega⟩
    obtain ⟨M, eM⟩ : ∃ M : Nat, f 2 = (M : Int) := ⟨(f 2).toNat, by omega⟩
    have hset := set9_yes h2 (by omega) (by omega) h3 (lba := L) (n := M) (by omega) (by omega) (N : Int) c.2
    rw [h5, ← eL, ← eM] at hset
    refine both_of h1 h2 h3 h4 h5 h.ap (putN_tab h3 (by omega) (by omega) c.2.2) (h4.set (by omega) c.2.1 (by omega)) (by rw [putN_len]; exact h5) hset (fun w1 M1 => ?_)
    have := set_map M1 (r := ⟨f 1, f 2, f 3⟩) c2 c1 (by simp only; omega) c.2.1 c.2.2
    rw [← eL, ← eM]
    exact this
  · have hno : okR (C : Int) (f 1) (f 2) = false ∨ f 3 < 0 ∨ 1048576 < f 3 := by
      by_cases c1 : okR (C : Int) (f 1) (f 2) = true
      · right
        by_cases c2 : f 3 < 0
        · exact Or.inl c2
        · right
          by_cases c3 : f 3 ≤ 1048576
          · exact absurd ⟨c1, by omega, c3⟩ c
          · omega
      · left; simpa using c1
    have hset := set9_no (w := wx) (a := ta) (c := tc) (t := t) (by omega) (N : Int) (f 1) (f 2) (f 3) false (by rw [h5]; exact hno.imp id (fun e => ⟨rfl, e⟩))
    rw [h5] at hset
    refine ⟨1, hset.mono ?_⟩
    rintro e w1 ⟨rfl, rfl⟩
    refine ⟨ta, tc, rfl, Keep.refl _ _, (set_no h1 (hf 1).2 hno).mono ?_⟩
    rintro e w2 ⟨rfl, k2⟩
    exact ⟨rfl, h.more k2, k2.mono (fun _ _ e => e.elim)⟩
theorem Pl.clear {W wx : World} {q b p k N C : Nat} {ta : Option Addr} {tc : Nat} (h : Pl W wx q b p k N C ta tc) (f : Nat → Int) (hf : ∀ j, -9223372036854775808 ≤ f j ∧ f j ≤ 9223372036854775807) :
    ∃ bad, Both W wx q b p k N C #[.slice ta C tc, .int .i64 (N : Int), .int .i64 (f 1), .int .i64 (f 2), .int .i64 0, .bool true] 11 #[.pointer (some ⟨q, 0, none⟩), .int .i64 (f 1), .int .i64 (f 2)] bad := by
  obtain ⟨t, m, h1, h2, h3, h4, h5⟩ := h.ex
  have hc1 := h1.cap1
  have hc2 := h1.cap2
  by_cases c : okR (C : Int) (f 1) (f 2) = true
  · obtain ⟨c1, c2, c3⟩ := okR_iff.1 c
    obtain ⟨L, eL⟩ : ∃ L : Nat, f 1 = (L : Int) := ⟨(f 1).toNat, by omega⟩
    obtain ⟨M, eM⟩ : ∃ M : Nat, f 2 = (M : Int) := ⟨(f 2).toNat, by omega⟩
    have hset := clear9_yes h2 (by omega) (by omega) h3 (lba := L) (n := M) (by omega) (by omega) (N : Int)
    rw [h5, ← eL, ← eM] at hset
    refine both_of h1 h2 h3 h4 h5 h.ap (putN_tab h3 (by omega) (by omega) (by omega)) (h4.clear (by omega) (by omega) (by omega)) (by rw [putN_len]; exact h5) hset (fun w1 M1 => ?_)
    have := clear_map M1 c2 c1 (by omega)
    rw [← eL, ← eM]
    exact this
  · have hno : okR (C : Int) (f 1) (f 2) = false := by simpa using c
    have hset := set9_no (w := wx) (a := ta) (c := tc) (t := t) (by omega) (N : Int) (f 1) (f 2) 0 true (by rw [h5]; exact Or.inl hno)
    rw [h5] at hset
    refine ⟨1, hset.mono ?_⟩
    rintro e w1 ⟨rfl, rfl⟩
    refine ⟨ta, tc, rfl, Keep.refl _ _, (clear_no h1 (hf 1).2 hno).mono ?_⟩
    rintro e w2 ⟨rfl, k2⟩
    exact ⟨rfl, h.more k2, k2.mono (fun _ _ e => e.elim)⟩
end Tg
end Go.Proofs.Ytobljchpphcolaa
