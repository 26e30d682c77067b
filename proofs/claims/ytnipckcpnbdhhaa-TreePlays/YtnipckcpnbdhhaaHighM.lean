/-
  What the statement TreeHigh leans on, as mathematics: numbers apart, heights, deletion from the front.
-/
import Derived.Test.YtnipckcpnbdhhaaViews
namespace Go.Proofs.Ytnipckcpnbdhhaa
namespace Tg

theorem cop1009 : ∀ b, b < 1009 → 1 ≤ b → Nat.gcd 1009 b = 1 := by decide +kernel
theorem mod_apart {a b st : Nat} (h1 : 1 ≤ st) (h2 : st ≤ 1000) (hab : a < b) (hb : b ≤ 300) : a * st % 1009 ≠ b * st % 1009 := by
  intro e
  have h0 : (b * st - a * st) % 1009 = 0 := Nat.sub_mod_eq_zero_of_mod_eq e.symm
  rw [← Nat.sub_mul] at h0
  have hd : 1009 ∣ (b - a) * st := Nat.dvd_of_mod_eq_zero h0
  have hc : Nat.Coprime 1009 st := cop1009 st (by omega) h1
  have := hc.dvd_of_dvd_mul_right hd
  have := Nat.le_of_dvd (by omega) this
  omega

theorem Tr.mem_runs_ins {n : Nat} {v x : Rn} {t : Tr} (ho : t.Ord) : x ∈ (t.ins n v).runs ↔ x = v ∨ x ∈ t.runs := by
  unfold Tr.runs
  rw [Tr.ins_seq n v t ho]
  constructor
  · intro h
    obtain ⟨z, hz, rfl⟩ := List.mem_map.1 h
    rcases Tr.mem_putL.1 hz with rfl | hz
    · exact Or.inl rfl
    · exact Or.inr (List.mem_map.2 ⟨z, hz, rfl⟩)
  · rintro (rfl | h)
    · exact List.mem_map.2 ⟨(n, x), Tr.mem_putL.2 (Or.inl rfl), rfl⟩
    · obtain ⟨z, hz, rfl⟩ := List.mem_map.1 h
      exact List.mem_map.2 ⟨z, Tr.mem_putL.2 (Or.inr hz), rfl⟩
theorem Tr.mem_runs_del {k : Int} {x : Rn} {t : Tr} (ho : t.Ord) : x ∈ (t.del k).runs ↔ x ∈ t.runs ∧ x.lba ≠ k := by
  unfold Tr.runs
  rw [Tr.del_seq k t ho]
  constructor
  · intro h
    obtain ⟨z, hz, rfl⟩ := List.mem_map.1 h
    obtain ⟨h1, h2⟩ := List.mem_filter.1 hz
    exact ⟨List.mem_map.2 ⟨z, h1, rfl⟩, by simpa using h2⟩
  · rintro ⟨h, hk⟩
    obtain ⟨z, hz, rfl⟩ := List.mem_map.1 h
    exact List.mem_map.2 ⟨z, List.mem_filter.2 ⟨hz, by simpa using hk⟩, rfl⟩
theorem Tr.has_runs {k : Int} {t : Tr} (ho : t.Ord) : t.Has k ↔ ∃ x ∈ t.runs, x.lba = k := by
  rw [Tr.has_iff ho]
  constructor
  · rintro ⟨z, hz, e⟩; exact ⟨z.2, List.mem_map.2 ⟨z, hz, rfl⟩, e⟩
  · rintro ⟨x, hx, e⟩
    obtain ⟨z, hz, rfl⟩ := List.mem_map.1 hx
    exact ⟨z, hz, e⟩
/-- The first run taken out. -/
theorem Tr.del_first {x : Rn} {m : List Rn} {t : Tr} (ho : t.Ord) (hm : t.runs = x :: m) : (t.del x.lba).runs = m := by
  have hu := Tr.ord_up.1 ho
  rw [hm] at hu
  have hu := (List.pairwise_cons.1 hu).1
  unfold Tr.runs at hm ⊢
  rw [Tr.del_seq _ t ho]
  cases hs : t.seq with
  | nil => rw [hs] at hm; cases hm
  | cons z r =>
    rw [hs] at hm
    simp only [List.map_cons, List.cons.injEq] at hm
    obtain ⟨h1, h2⟩ := hm
    unfold Tr.cutL
    rw [List.filter_cons, if_neg (by simp [h1]), List.filter_eq_self.2 (fun y hy => by
      have := hu y.2 (by rw [← h2]; exact List.mem_map.2 ⟨y, hy, rfl⟩)
      simp; omega), h2]

theorem Tr.views_h : ∀ {t : Tr} {v : Vw}, v ∈ t.views → v.h ≤ (t.h : Int)
  | .nil, v, hv => by simp [Tr.views] at hv
  | .node i l x r, v, hv => by
    simp only [Tr.views, List.mem_append, List.mem_cons] at hv
    rcases hv with hv | rfl | hv
    · have := Tr.views_h hv; simp only [Tr.h]; omega
    · simp only [Tr.h]; omega
    · have := Tr.views_h hv; simp only [Tr.h]; omega
theorem Tr.views_top {t : Tr} (ht : 0 < t.views.length) : ∃ v ∈ t.views, v.h = (t.h : Int) := by
  cases t with
  | nil => simp [Tr.views] at ht
  | node i l x r => exact ⟨⟨i, l.link, r.link, ((max l.h r.h + 1 : Nat) : Int), x⟩, by simp [Tr.views], rfl⟩
theorem Tr.least_mono' : ∀ {a b : Nat}, a ≤ b → Tr.least a ≤ Tr.least b := by
  intro a b h
  induction h with
  | refl => exact Nat.le_refl _
  | step _ ih => exact Nat.le_trans ih (Tr.least_mono _)
theorem Tr.high {t : Tr} (hb : t.Bal) (hn : t.views.length ≤ 300) : t.h ≤ 11 ∧ Tr.least t.h ≤ t.views.length := by
  have h1 := Tr.least_le hb
  have h2 : t.seq.length = t.views.length := by rw [← t.views_seq]; simp
  refine ⟨?_, by omega⟩
  by_cases e : 12 ≤ t.h
  · have h3 := Tr.least_mono' e
    have h4 : Tr.least 12 = 376 := by decide
    omega
  · omega
end Tg
end Go.Proofs.Ytnipckcpnbdhhaa
