/-
  In a statement whose order of evaluation is left open, a call that leaves the world as it is and always answers the same may be made first: for any program, any operations, any condition on the world that the other operations keep.
-/
import Derived.Deep.RegionHeld3
namespace Go.Proofs.Ytgohmjidbbecpaa
namespace Calm
section
variable {P : Program} {ops : Array Oper} {Q : Exit → Act → World → Prop} {md : Region.Mode} {S : World → Prop}

/-- In state a, in every world that meets S, the operation is a call that answers v and leaves the world. -/
def Is (P : Program) (S : World → Prop) (o : Oper) (v : Value) (a : Act) : Prop :=
  o.guard = none ∧ ∃ f args, ∀ w, S w → (execOp a.eval o).run P w = .ok (.enter f args) w ∧ Calls P f args w fun e w' => e = .returned v ∧ w' = w

theorem wanted {o : Oper} (hg : o.guard = none) (x : Nat → Option Bool) : Region.wanted o x = true := by simp [Region.wanted, hg]

theorem now {i : Nat} {o : Oper} {v : Value} {a : Act} {w : World} {K : Act → World → Prop} (hi : ops[i]? = some o) (h : Is P S o v a) (hS : S w) (hK : K (a.put o.dst v) w) : wpOp P ops Q i K a w := by
  obtain ⟨hg, f, args, hr⟩ := h
  unfold wpOp
  rw [hi]
  simp only [wanted hg, if_true]
  left
  unfold Oper.wp
  rw [(hr w hS).1]
  refine (hr w hS).2.mono ?_
  rintro e w' ⟨rfl, rfl⟩
  exact hK

theorem Is.same {o : Oper} {v : Value} {a b : Act} (h : Is P S o v a) (e : execOp b.eval o = execOp a.eval o) : Is P S o v b := by
  unfold Is at *
  rw [e]; exact h

/-- The same operation, with the answer laid already or not. -/
theorem later {j : Nat} {oi oj : Oper} {v : Value} {K : Act → World → Prop} {a : Act} {w : World} (hj : ops[j]? = some oj) (hap : oi.apart ops oj = true)
    (si : ∀ cs b, oi.op ≠ .select cs b) (sj : ∀ cs b, oj.op ≠ .select cs b) (hQ : ∀ c a w, Q (.panic c) (a.put oi.dst v) w → Q (.panic c) a w)
    (hy : Is P S oi v a) (h : wpOp P ops Q j K (a.put oi.dst v) w) : wpOp P ops Q j (fun b u => Is P S oi v b ∧ K (b.put oi.dst v) u) a w := by
  obtain ⟨p1, p2, p3⟩ := Oper.apart_spec hap
  have stay : ∀ (b : Act), Is P S oi v b → ∀ u, Is P S oi v (b.put oj.dst u) := fun b hb u => hb.same (execOp_put oi si b oj.dst u p3)
  have swap : ∀ (b : Act) (u : Value) (x : World), K ((b.put oi.dst v).put oj.dst u) x → K ((b.put oj.dst u).put oi.dst v) x := fun b u x hk => by rw [← Act.put_comm b v u p2]; exact hk
  have hw := wanted_put oj a oi.dst v p1
  have he := execOp_put oj sj a oi.dst v p1
  unfold wpOp at *
  rw [hj] at *
  simp only at *
  rw [hw] at h
  by_cases g : Region.wanted oj (yielded ops a.tmps) = true
  · rw [if_pos g] at h ⊢
    rcases h with h | ⟨q1, q2⟩
    · left
      unfold Oper.wp at h ⊢
      rw [he] at h
      generalize Sem.run P (execOp a.eval oj) w = r at h ⊢
      match r, h with
      | .ok (.value u) x, h => exact ⟨stay a hy u, swap _ _ _ h⟩
      | .ok .skip x, h => exact ⟨stay a hy undef, swap _ _ _ h⟩
      | .ok (.defer d) x, h =>
        refine ⟨stay { a with defers := d :: a.defers } (hy.same rfl) undef, swap _ _ _ ?_⟩
        rw [← Act.put_defers]; exact h
      | .ok (.enter f args) x, h =>
        refine Calls.mono h ?_
        intro e u hu
        cases e with
        | returned z => exact ⟨stay a hy z, swap _ _ _ hu⟩
        | panicked c => exact hQ _ _ _ hu
        | outgrown => exact hu
      | .ok (.row row args) x, h => exact Rows.mono h fun z u hu => ⟨stay a hy z, swap _ _ _ hu⟩
      | .halt (.panic u) x, h => exact hQ _ _ _ h
    · right
      refine ⟨?_, q2⟩
      unfold Oper.asks at *
      rw [he] at q1
      exact q1
  · rw [if_neg g] at h ⊢
    exact ⟨stay a hy _, swap _ _ _ h⟩
/-- It may be made first. -/
theorem first {i : Nat} {oi : Oper} {v : Value} (hi : ops[i]? = some oi) (hsel : ∀ (j : Nat) (o : Oper) cs b, ops[j]? = some o → o.op ≠ .select cs b) (hQ : ∀ c a w, Q (.panic c) (a.put oi.dst v) w → Q (.panic c) a w) :
    ∀ (fuel : Nat) (listed : Array Bool) (a : Act) (w : World),
      (∀ j oj, ops[j]? = some oj → j ≠ i → listed.getD j true = false → (∀ e ∈ oj.after, Region.binds md e = true → e.on ≠ i) → oi.apart ops oj = true) →
      i ∈ Region.ready md ops listed → Is P S oi v a → S w → wpAnyH P md ops Q S fuel (listed.setIfInBounds i true) (a.put oi.dst v) w → wpAnyH P md ops Q S (fuel + 1) listed a w := by
  intro fuel
  induction fuel with
  | zero =>
    intro listed a w _ hr hy hS H
    refine ⟨fun e => (by rw [e] at hr; cases hr), fun j hj => ?_⟩
    by_cases e : j = i
    · subst e; exact now hi hy hS ⟨hS, H⟩
    · have := ready_mono hj e
      rw [H.1] at this; cases this
  | succ fuel ih =>
    intro listed a w hfree hr hy hS H
    refine ⟨fun e => (by rw [e] at hr; cases hr), fun j hj => ?_⟩
    by_cases e : j = i
    · subst e; exact now hi hy hS ⟨hS, H⟩
    obtain ⟨un, oj, hoj, hall⟩ := mem_ready.1 hj
    have hno : ∀ x ∈ oj.after, Region.binds md x = true → x.on ≠ i := by
      intro x hx hb hxi
      have h1 := hall x hx hb
      have h0 := (mem_ready.1 hr).1
      rw [hxi] at h1
      rcases Nat.lt_or_ge i listed.size with g | g
      · simp [g] at h0 h1; rw [h0] at h1; cases h1
      · simp [Array.getElem?_eq_none g] at h1
    have h2 := later hoj (hfree j oj hoj e un hno) (fun cs b => hsel i oi cs b hi) (fun cs b => hsel j oj cs b hoj) hQ hy (H.2 j (ready_mono hj e))
    refine wpOp_mono (fun b u h3 => ⟨h3.2.1, ih (listed.setIfInBounds j true) b u ?_ (ready_mono hr (Ne.symm e)) h3.1 h3.2.1 ?_⟩) h2
    · intro k ok hk hki hun hno'
      refine hfree k ok hk hki ?_ hno'
      by_cases g : j = k
      · subst g; exact un
      · rw [getD_set_ne true g] at hun; exact hun
    · rw [Array.setIfInBounds_comm _ _ e]; exact h3.2.2

/-- As a walk takes it. -/
theorem take {i : Nat} {oi : Oper} {v : Value} {fuel : Nat} {listed : Array Bool} {a : Act} {w : World} (hi : ops[i]? = some oi) (hs : Region.noSelect ops = true) (hf : Region.free md ops listed i = true)
    (hr : (Region.ready md ops listed).contains i = true) (hQ : ∀ c a w, Q (.panic c) (a.put oi.dst v) w → Q (.panic c) a w) (hy : Is P S oi v a) (hS : S w)
    (h : wpAnyH P md ops Q S fuel (listed.setIfInBounds i true) (a.put oi.dst v) w) : wpAnyH P md ops Q S (fuel + 1) listed a w :=
  first hi (Region.noSelect_spec hs) hQ fuel listed a w (Region.free_spec hi hf) (by simpa using hr) hy hS h
end
end Calm
end Go.Proofs.Ytgohmjidbbecpaa
