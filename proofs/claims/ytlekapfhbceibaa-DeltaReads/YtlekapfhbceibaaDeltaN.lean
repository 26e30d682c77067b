/-
  What bytes say, told as one answer: the changes of which a record tells them, the runs of which a snapshot tells them, or none.
-/
import Derived.Test.YtlekapfhbceibaaDeltaM
namespace Go.Proofs.Ytlekapfhbceibaa
namespace Tg

/-- May these be laid, as a test. -/
def mayB (l : List Rn) : Bool := decide (l.length ≤ 512) && l.all (fun x => decide (MayX x))
theorem mayB_iff {l : List Rn} : mayB l = true ↔ MayL l := by
  unfold mayB MayL
  rw [Bool.and_eq_true, decide_eq_true_iff, List.all_eq_true]
  simp only [decide_eq_true_iff]
/-- The changes that bytes say. -/
def decL (b : List Int) : Option (List Rn) :=
  match numL b with
  | none => none
  | some (n, b1) =>
    if 512 < n then none
    else match rdB n.toNat 0 0 b1 with
      | none => none
      | some (l, r) => if r = [] ∧ mayB l = true then some l else none
theorem decL_iff {b : List Int} (hb : Bys b) {l : List Rn} : decL b = some l ↔ MayL l ∧ recL l = b := by
  constructor
  · intro h
    unfold decL at h
    split at h
    · cases h
    · next n b1 e1 =>
      split at h
      · cases h
      · next hn =>
        split at h
        · cases h
        · next l' r e2 =>
          split at h
          · next hc =>
            injection h with h
            subst h
            obtain ⟨n0, -, p1, q1⟩ := put_num hb e1
            obtain ⟨i1, i2, -⟩ := rec_rd _ q1 e2
            refine ⟨mayB_iff.1 hc.2, ?_⟩
            rw [hc.1, List.append_nil] at i2
            unfold recL
            rw [p1, i1, i2, show ((n.toNat : Nat) : Int) = n by omega]
          · cases h
  · rintro ⟨hl, h⟩
    obtain ⟨n, b1, h1, h2, h3⟩ := (rec_iff hb hl).1 h
    have := hl.1
    unfold decL
    rw [h1]
    simp only
    rw [if_neg (by omega), show n.toNat = l.length by omega, h3]
    simp only
    rw [if_pos ⟨trivial, mayB_iff.2 hl⟩]
theorem decL_rec {l : List Rn} (hl : MayL l) (hb : Bys (recL l)) : decL (recL l) = some l := (decL_iff hb).2 ⟨hl, rfl⟩
theorem bys_recB : ∀ (l : List Rn) (lb ph : Int), (∀ x ∈ l, MayX x) → Bys (recB lb ph l)
  | [], _, _, _ => fun x hx => by cases hx
  | x :: l, lb, ph, hx => by
    rw [recB]
    have h1 : MayX x := hx x (by simp)
    unfold MayX at h1
    have hf : ∀ v : Int, 0 ≤ Vi.fold v := fun v => by unfold Vi.fold; split <;> omega
    exact (bys_vb (hf _)).app ((bys_vb h1.2.2.1).app ((bys_vb (hf _)).app (bys_recB l _ _ (fun y hy => hx y (by simp [hy])))))
theorem bys_recL {l : List Rn} (h : MayL l) : Bys (recL l) := (bys_vb (by omega)).app (bys_recB l 0 0 h.2)
/-- May these runs be laid, as a test. -/
def fitB (l : List Rn) : Bool := decide (l.length ≤ 512) && (formP none l && l.all (fun x => decide (x.fin ≤ 512 ∧ x.phys ≤ 1048576)))
/-- Runs that pass the test are in their form. -/
theorem formP_form : ∀ {l : List Rn} {p : Option Rn}, formP p l = true → Form l ∧ (∀ x ∈ l, inB x = true) ∧ ∀ a, p = some a → 1 ≤ a.len → ∀ x ∈ l, a.fin ≤ x.lba ∧ ¬ Glued a x
  | [], p, _ => ⟨Form.nil, (fun x hx => by cases hx), (fun a _ _ x hx => by cases hx)⟩
  | x :: l, p, h => by
    have h' : okAt p x = true ∧ formP (some x) l = true := by rwa [formP_at, Bool.and_eq_true] at h
    obtain ⟨h1, h2⟩ := h'
    obtain ⟨f1, f2, f3⟩ := formP_form h2
    have hb : inB x = true := by
      unfold okAt at h1
      rw [Bool.and_eq_true] at h1
      exact h1.1
    have hb' := inB_iff.1 hb
    refine ⟨Form.cons.2 ⟨⟨hb'.1, hb'.2.2.1, hb'.2.2.2.2.1⟩, f3 x rfl hb'.2.2.1, f1⟩, fun y hy => ?_, fun a e ha y hy => ?_⟩
    · rcases List.mem_cons.1 hy with rfl | hy
      · exact hb
      · exact f2 y hy
    · subst e
      have hfo : folB a x = true := by
        unfold okAt at h1
        rw [Bool.and_eq_true] at h1
        exact h1.2
      have hax : a.fin ≤ x.lba ∧ ¬ Glued a x := by
        unfold folB at hfo
        unfold Glued Rn.fin
        split at hfo
        · simp at hfo; omega
        · simp at hfo; omega
      rcases List.mem_cons.1 hy with rfl | hy
      · exact hax
      · have h4 := f3 x rfl hb'.2.2.1 y hy
        unfold Glued Rn.fin at *
        omega
theorem fitB_iff {l : List Rn} : fitB l = true ↔ FitL l := by
  unfold fitB FitL
  rw [Bool.and_eq_true, Bool.and_eq_true, decide_eq_true_iff, List.all_eq_true]
  simp only [decide_eq_true_iff]
  constructor
  · rintro ⟨h1, h2, h3⟩
    exact ⟨h1, (formP_form h2).1, h3⟩
  · rintro ⟨h1, h2, h3⟩
    refine ⟨h1, form_true h2 (fun x hx => ?_) (fun a e => by cases e), h3⟩
    have a1 := h2.1 x hx
    have a2 := h3 x hx
    unfold Rn.Ok at a1
    unfold Rn.fin at a2
    rw [inB_iff]
    omega
/-- The runs that bytes say. -/
def decS (b : List Int) : Option (List Rn) :=
  match numL b with
  | none => none
  | some (n, b1) =>
    if 512 < n then none
    else match rdS n.toNat 0 0 b1 with
      | none => none
      | some (l, r) => if r = [] ∧ fitB l = true then some l else none
theorem decS_iff {b : List Int} (hb : Bys b) {l : List Rn} : decS b = some l ↔ FitL l ∧ snL l = b := by
  constructor
  · intro h
    unfold decS at h
    split at h
    · cases h
    · next n b1 e1 =>
      split at h
      · cases h
      · next hn =>
        split at h
        · cases h
        · next l' r e2 =>
          split at h
          · next hc =>
            injection h with h
            subst h
            obtain ⟨n0, -, p1, q1⟩ := put_num hb e1
            obtain ⟨i1, i2, -⟩ := sn_rd _ q1 e2
            refine ⟨fitB_iff.1 hc.2, ?_⟩
            rw [hc.1, List.append_nil] at i2
            unfold snL
            rw [p1, i1, i2, show ((n.toNat : Nat) : Int) = n by omega]
          · cases h
  · rintro ⟨hl, h⟩
    obtain ⟨n, b1, h1, h2, h3⟩ := (sn_iff hb hl).1 h
    have := hl.1
    unfold decS
    rw [h1]
    simp only
    rw [if_neg (by omega), show n.toNat = l.length by omega, h3]
    simp only
    rw [if_pos ⟨trivial, fitB_iff.2 hl⟩]
theorem bys_snB : ∀ (l : List Rn) (lb ph : Int), Form l → (∀ x ∈ l, lb ≤ x.lba) → Bys (snB lb ph l)
  | [], _, _, _, _ => fun x hx => by cases hx
  | x :: l, lb, ph, hf, hx => by
    obtain ⟨h1, h2, h3⟩ := Form.cons.1 hf
    unfold Rn.Ok at h1
    have h4 := hx x (by simp)
    rw [snB]
    have hfo : ∀ v : Int, 0 ≤ Vi.fold v := fun v => by unfold Vi.fold; split <;> omega
    exact (bys_vb (by omega)).app ((bys_vb (by omega)).app ((bys_vb (hfo _)).app (bys_snB l _ _ h3 (fun y hy => by have := (h2 y hy).1; unfold Rn.fin at this; exact this))))
theorem bys_snL {l : List Rn} (h : FitL l) : Bys (snL l) := (bys_vb (by omega)).app (bys_snB l 0 0 h.2.1 (fun x hx => by have := h.2.1.1 x hx; unfold Rn.Ok at this; omega))
/-- Different runs have different bytes. -/
theorem sn_one {a b : List Rn} (ha : FitL a) (hb : FitL b) (h : snL a = snL b) : a = b := by
  have h1 := (decS_iff (bys_snL hb)).2 ⟨hb, rfl⟩
  have h2 := (decS_iff (bys_snL hb)).2 ⟨ha, h⟩
  rw [h1] at h2
  injection h2 with h2
  exact h2.symm
end Tg
end Go.Proofs.Ytlekapfhbceibaa
