/-
  The program's own Runs, walked.
-/
import Derived.Test.YtlekapfhbceibaaPi
namespace Go.Proofs.Ytlekapfhbceibaa
open Go.ChangeShapes Go.WideShapes Go.ChangeAt Go.RowKit
namespace Tg
open Vi
set_option maxHeartbeats 600000 in
/-- Runs. -/
theorem runs_ok : RunsOk := by
  intro w a len cap b hr hlen
  have hb : Bys b := hr.2.2.2.1
  have hro := readruns_any hr
  cases hd : decS b with
  | none =>
    have hno : ∀ l, FitL l → snL l = b → False := fun l hl e => by
      have := (decS_iff hb).2 ⟨hl, e⟩
      rw [hd] at this
      cases this
    simp only
    clear hd
    have hno' : Hid (∀ l, FitL l → snL l = b → False) := hno
    clear hno
    go_enter Try.func11, Try.ntmps11
    go_wp2_with fail
    refine hro.mono ?_
    rintro e w1 ⟨a1, c1, m, ok, rfl, Q1, hF, hK⟩
    clear hK hro
    cases ok with
    | false =>
      go_wp2_with fail
      go_ret2
      exact ⟨⟨_, _, rfl⟩, Q1.keep⟩
    | true =>
      have hrec := snap_ok Q1.rs.rz hF
      cases hm : fitB m with
      | false =>
        rw [hm] at hrec
        simp only [Bool.false_eq_true, ↓reduceIte] at hrec
        go_wp2_with fail
        refine hrec.mono ?_
        rintro e w2 ⟨⟨a2, c2, rfl⟩, k2⟩
        go_wp2_with fail
        go_ret2
        exact ⟨⟨_, _, rfl⟩, Q1.keep.trans k2⟩
      | true =>
        rw [hm] at hrec
        simp only [↓reduceIte] at hrec
        have hml := fitB_iff.1 hm
        have hne : snL m ≠ b := fun e => (show ∀ l, FitL l → snL l = b → False from hno') m hml e
        have hbm := bys_snL hml
        have hbe := str_beq hbm hb
        rw [decide_eq_false hne] at hbe
        clear hm hml hno' hne
        go_wp2_with fail
        refine hrec.mono ?_
        rintro e w2 ⟨⟨a2, c2, rfl, hrow⟩, k2⟩
        have heq := equal_any hrow (hr.moreV (Q1.keep.trans k2))
        rw [hbe] at heq
        go_wp2_with fail
        refine heq.mono ?_
        rintro e w3 ⟨rfl, e3⟩
        subst e3
        go_wp2_with fail
        go_ret2
        exact ⟨⟨_, _, rfl⟩, Q1.keep.trans k2⟩
  | some l =>
    obtain ⟨hl, he⟩ := (decS_iff hb).1 hd
    simp only
    clear hd
    have hmb : fitB l = true := fitB_iff.2 hl
    have hbe := str_beq (bys_snL hl) hb
    rw [decide_eq_true he] at hbe
    have hl' : Hid (FitL l) := hl
    have he' : Hid (snL l = b) := he
    clear hl he
    go_enter Try.func11, Try.ntmps11
    go_wp2_with fail
    refine hro.mono ?_
    rintro e w1 ⟨a1, c1, m, ok, rfl, Q1, hF, hK⟩
    obtain ⟨rfl, rfl⟩ := (show ∀ l, FitL l → snL l = b → ok = true ∧ m = l from hK) l hl' he'
    clear hK hro
    have hrec := snap_ok Q1.rs.rz hF
    rw [hmb] at hrec
    simp only [↓reduceIte] at hrec
    clear hmb
    go_wp2_with fail
    refine hrec.mono ?_
    rintro e w2 ⟨⟨a2, c2, rfl, hrow⟩, k2⟩
    have heq := equal_any hrow (hr.moreV (Q1.keep.trans k2))
    rw [hbe] at heq
    go_wp2_with fail
    refine heq.mono ?_
    rintro e w3 ⟨rfl, e3⟩
    subst e3
    go_wp2_with fail
    go_ret2
    exact ⟨⟨_, _, rfl, (Q1.more k2).rs.rz⟩, Q1.keep.trans k2⟩
end Tg
end Go.Proofs.Ytlekapfhbceibaa
