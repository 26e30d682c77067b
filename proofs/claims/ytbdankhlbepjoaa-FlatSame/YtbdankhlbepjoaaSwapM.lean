/-
  What swap makes of a tree, as mathematics: which runs it has.
-/
import Derived.Test.YtbdankhlbepjoaaContW
namespace Go.Proofs.Ytbdankhlbepjoaa
namespace Tg

theorem Tr.mem_runs_ins {n : Nat} {v x : Rn} {t : Tr} (ho : t.Ord) : x ∈ (t.ins n v).runs ↔ x = v ∨ x ∈ t.runs := by
  unfold Tr.runs
  rw [Tr.ins_seq n v t ho]
  constructor
  · intro h
    obtain ⟨z, hz, rfl⟩ := List.mem_map.1 h
    rcases Tr.mem_putL.1 hz with rfl | hz
    · exact Or.inl rfl
    · exact Or.inr (List.mem_map.2 ⟨z, hz, rfl⟩)
  · rintro (rfl | h)
    · exact List.mem_map.2 ⟨(n, x), Tr.mem_putL.2 (Or.inl rfl), rfl⟩
    · obtain ⟨z, hz, rfl⟩ := List.mem_map.1 h
      exact List.mem_map.2 ⟨z, Tr.mem_putL.2 (Or.inr hz), rfl⟩
theorem Tr.mem_runs_del {k : Int} {x : Rn} {t : Tr} (ho : t.Ord) : x ∈ (t.del k).runs ↔ x ∈ t.runs ∧ x.lba ≠ k := by
  unfold Tr.runs
  rw [Tr.del_seq k t ho]
  constructor
  · intro h
    obtain ⟨z, hz, rfl⟩ := List.mem_map.1 h
    obtain ⟨h1, h2⟩ := List.mem_filter.1 hz
    exact ⟨List.mem_map.2 ⟨z, h1, rfl⟩, by simpa using h2⟩
  · rintro ⟨h, hk⟩
    obtain ⟨z, hz, rfl⟩ := List.mem_map.1 h
    exact List.mem_map.2 ⟨z, List.mem_filter.2 ⟨hz, by simpa using hk⟩, rfl⟩
theorem Tr.has_runs {k : Int} {t : Tr} (ho : t.Ord) : t.Has k ↔ ∃ x ∈ t.runs, x.lba = k := by
  rw [Tr.has_iff ho]
  constructor
  · rintro ⟨z, hz, e⟩; exact ⟨z.2, List.mem_map.2 ⟨z, hz, rfl⟩, e⟩
  · rintro ⟨x, hx, e⟩
    obtain ⟨z, hz, rfl⟩ := List.mem_map.1 hx
    exact ⟨z, hz, e⟩
theorem up_same : ∀ (a b : List Rn), Tr.Up a → Tr.Up b → (∀ x, x ∈ a ↔ x ∈ b) → a = b
  | [], [], _, _, _ => rfl
  | [], y :: b, _, _, h => by have := (h y).2 (by simp); simp at this
  | x :: a, [], _, _, h => by have := (h x).1 (by simp); simp at this
  | x :: a, y :: b, ha, hb, h => by
    obtain ⟨ha1, ha2⟩ := List.pairwise_cons.1 ha
    obtain ⟨hb1, hb2⟩ := List.pairwise_cons.1 hb
    have hxy : x = y := by
      rcases List.mem_cons.1 ((h x).1 (by simp)) with e | e
      · exact e
      · rcases List.mem_cons.1 ((h y).2 (by simp)) with e2 | e2
        · exact e2.symm
        · have := hb1 x e; have := ha1 y e2; omega
    subst hxy
    congr 1
    refine up_same a b ha2 hb2 (fun z => ?_)
    constructor
    · intro hz
      rcases List.mem_cons.1 ((h z).1 (by simp [hz])) with rfl | e
      · have := ha1 z hz; omega
      · exact e
    · intro hz
      rcases List.mem_cons.1 ((h z).2 (by simp [hz])) with rfl | e
      · have := hb1 z hz; omega
      · exact e
theorem Tr.mem_runs_chg {v x : Rn} {t : Tr} (ho : t.Ord) (hv : t.Has v.lba) : x ∈ (t.chg v).runs ↔ x = v ∨ (x ∈ t.runs ∧ x.lba ≠ v.lba) := by
  unfold Tr.runs
  rw [Tr.chg_seq v t ho]
  unfold Tr.chgL
  rw [List.map_map]
  constructor
  · intro h
    obtain ⟨z, hz, rfl⟩ := List.mem_map.1 h
    by_cases c : z.2.lba = v.lba
    · left; simp [c]
    · right; simp [c]; exact ⟨z.1, hz⟩
  · rintro (rfl | ⟨h, hk⟩)
    · obtain ⟨z, hz, e⟩ := (Tr.has_iff ho).1 hv
      exact List.mem_map.2 ⟨z, hz, by simp [e]⟩
    · obtain ⟨z, hz, rfl⟩ := List.mem_map.1 h
      exact List.mem_map.2 ⟨z, hz, by simp [hk]⟩
theorem Tr.runs_len (t : Tr) : t.views.length = t.runs.length := by rw [← Tr.views_runs]; simp

/-- What is there behind the first i of the old runs. -/
def DelI (m o f : List Rn) (i : Nat) (t : Tr) : Prop := ∀ x, x ∈ t.runs ↔ x ∈ m ∧ ¬ (x ∈ o.take i ∧ hasL x.lba f = false)
/-- What is there behind the first j of the fresh runs. -/
def PutI (m o f : List Rn) (j : Nat) (t : Tr) : Prop := ∀ x, x ∈ t.runs ↔ x ∈ f.take j ∨ ((x ∈ m ∧ ¬ (x ∈ o ∧ hasL x.lba f = false)) ∧ ∀ y ∈ f.take j, y.lba ≠ x.lba)

theorem up_one {m : List Rn} (h : Tr.Up m) {x y : Rn} (hx : x ∈ m) (hy : y ∈ m) (e : x.lba = y.lba) : x = y := by
  induction m with
  | nil => cases hx
  | cons z m ih =>
    obtain ⟨h1, h2⟩ := List.pairwise_cons.1 h
    rcases List.mem_cons.1 hx with ex | hx1
    · subst ex
      rcases List.mem_cons.1 hy with ey | hy1
      · exact ey.symm
      · have := h1 y hy1; omega
    · rcases List.mem_cons.1 hy with ey | hy1
      · subst ey; have := h1 x hx1; omega
      · exact ih h2 hx1 hy1
theorem up_take {m : List Rn} (h : Tr.Up m) {i : Nat} {x : Rn} (hx : m[i]? = some x) {y : Rn} (hy : y ∈ m.take i) : y.lba < x.lba := by
  have hi := (List.getElem?_eq_some_iff.1 hx).1
  obtain ⟨j, hj, rfl⟩ := List.mem_take_iff_getElem.1 hy
  have := List.pairwise_iff_getElem.1 h j i (by omega) hi (by omega)
  rw [(List.getElem?_eq_some_iff.1 hx).2] at this
  exact this
theorem take_next {m : List Rn} {i : Nat} {x : Rn} (hx : m[i]? = some x) : m.take (i + 1) = m.take i ++ [x] := by rw [List.take_add_one, hx]; rfl

theorem DelI.start {m o f : List Rn} {t : Tr} (h : t.runs = m) : DelI m o f 0 t := fun x => by rw [h]; simp
theorem DelI.keep {m o f : List Rn} {i : Nat} {t : Tr} (h : DelI m o f i t) {x : Rn} (hx : o[i]? = some x) (hf : hasL x.lba f = true) : DelI m o f (i + 1) t := fun y => by
  rw [h y, take_next hx]
  constructor
  · rintro ⟨h1, h2⟩
    refine ⟨h1, fun ⟨h3, h4⟩ => ?_⟩
    rcases List.mem_append.1 h3 with h3 | h3
    · exact h2 ⟨h3, h4⟩
    · simp at h3; subst h3; rw [hf] at h4; cases h4
  · rintro ⟨h1, h2⟩
    exact ⟨h1, fun ⟨h3, h4⟩ => h2 ⟨by simp [h3], h4⟩⟩
theorem DelI.has {m o f : List Rn} {i : Nat} {t : Tr} (h : DelI m o f i t) (ho : t.Ord) (hu : Tr.Up o) {x : Rn} (hx : o[i]? = some x) (hm : x ∈ m) : t.Has x.lba :=
  (Tr.has_runs ho).2 ⟨x, (h x).2 ⟨hm, fun ⟨h3, _⟩ => by have := up_take hu hx h3; omega⟩, rfl⟩
theorem DelI.del {m o f : List Rn} {i : Nat} {t : Tr} (h : DelI m o f i t) (ho : t.Ord) (hum : Tr.Up m) {x : Rn} (hx : o[i]? = some x) (hm : x ∈ m) (hf : hasL x.lba f = false) : DelI m o f (i + 1) (t.del x.lba) := fun y => by
  rw [Tr.mem_runs_del ho, h y, take_next hx]
  constructor
  · rintro ⟨⟨h1, h2⟩, h3⟩
    refine ⟨h1, fun ⟨h4, h5⟩ => ?_⟩
    rcases List.mem_append.1 h4 with h4 | h4
    · exact h2 ⟨h4, h5⟩
    · simp at h4; subst h4; exact h3 rfl
  · rintro ⟨h1, h2⟩
    refine ⟨⟨h1, fun ⟨h3, h4⟩ => h2 ⟨by simp [h3], h4⟩⟩, fun e => h2 ⟨?_, by rw [e]; exact hf⟩⟩
    rw [up_one hum h1 hm e]
    simp
theorem DelI.end {m o f : List Rn} {t : Tr} (h : DelI m o f o.length t) : PutI m o f 0 t := fun x => by rw [h x, List.take_length]; simp

theorem PutI.chg {m o f : List Rn} {j : Nat} {t : Tr} (h : PutI m o f j t) (ho : t.Ord) (huf : Tr.Up f) {x : Rn} (hx : f[j]? = some x) (hh : t.Has x.lba) : PutI m o f (j + 1) (t.chg x) := fun y => by
  rw [Tr.mem_runs_chg ho hh, h y, take_next hx]
  constructor
  · rintro (rfl | ⟨h1 | ⟨h1, h2⟩, h3⟩)
    · left; simp
    · left; simp [h1]
    · right
      refine ⟨h1, fun z hz => ?_⟩
      rcases List.mem_append.1 hz with hz | hz
      · exact h2 z hz
      · simp at hz; subst hz; exact fun e => h3 e.symm
  · rintro (h1 | ⟨h1, h2⟩)
    · rcases List.mem_append.1 h1 with h1 | h1
      · right; exact ⟨Or.inl h1, by have := up_take huf hx h1; omega⟩
      · simp at h1; exact Or.inl h1
    · right
      exact ⟨Or.inr ⟨h1, fun z hz => h2 z (by simp [hz])⟩, fun e => h2 x (by simp) e.symm⟩
theorem PutI.ins {m o f : List Rn} {j : Nat} {t : Tr} (h : PutI m o f j t) (ho : t.Ord) {x : Rn} (hx : f[j]? = some x) (hh : ¬ t.Has x.lba) (n : Nat) : PutI m o f (j + 1) (t.ins n x) := fun y => by
  rw [Tr.mem_runs_ins ho, take_next hx]
  have hno : y ∈ t.runs → y.lba ≠ x.lba := fun hy e => hh ((Tr.has_runs ho).2 ⟨y, hy, e⟩)
  constructor
  · rintro (rfl | h1)
    · left; simp
    · have hne := hno h1
      rcases (h y).1 h1 with h2 | ⟨h2, h3⟩
      · left; simp [h2]
      · right
        refine ⟨h2, fun z hz => ?_⟩
        rcases List.mem_append.1 hz with hz | hz
        · exact h3 z hz
        · simp at hz; subst hz; exact fun e => hne e.symm
  · rintro (h1 | ⟨h1, h2⟩)
    · rcases List.mem_append.1 h1 with h1 | h1
      · right; exact (h y).2 (Or.inl h1)
      · simp at h1; exact Or.inl h1
    · right
      exact (h y).2 (Or.inr ⟨h1, fun z hz => h2 z (by simp [hz])⟩)
/-- No more runs at any time than at the end. -/
theorem PutI.len {A B o f : List Rn} {j : Nat} {t : Tr} (h : PutI (A ++ o ++ B) o f j t) (ho : t.Ord) (hu : Tr.Up (A ++ f ++ B)) : t.runs.length ≤ (A ++ f ++ B).length := by
  refine up_len (Tr.ord_up.1 ho) hu (fun x hx => ?_)
  rcases (h x).1 hx with h1 | ⟨⟨h1, h2⟩, -⟩
  · exact ⟨x, by simp [List.mem_of_mem_take h1], rfl⟩
  · by_cases c : hasL x.lba f = true
    · obtain ⟨y, hy, e⟩ := hasL_iff.1 c
      exact ⟨y, by simp [hy], e⟩
    · have c' : hasL x.lba f = false := by simpa using c
      have : x ∉ o := fun hxo => h2 ⟨hxo, c'⟩
      simp only [List.mem_append] at h1
      exact ⟨x, by simp only [List.mem_append]; rcases h1 with (h1 | h1) | h1; exact Or.inl (Or.inl h1); exact absurd h1 this; exact Or.inr h1, rfl⟩
theorem PutI.end {A B o f : List Rn} {t : Tr} (h : PutI (A ++ o ++ B) o f f.length t) (ho : t.Ord) (hm : Tr.Up (A ++ o ++ B)) (hu : Tr.Up (A ++ f ++ B)) : t.runs = A ++ f ++ B := by
  refine up_same _ _ (Tr.ord_up.1 ho) hu (fun x => ?_)
  rw [h x, List.take_length]
  have hA : ∀ x ∈ A, hasL x.lba f = false := fun x hx => by
    rw [Bool.eq_false_iff]
    intro hh
    obtain ⟨y, hy, e⟩ := hasL_iff.1 hh
    have := (List.pairwise_append.1 (List.pairwise_append.1 hu).1).2.2 x hx y hy
    omega
  have hB : ∀ x ∈ B, hasL x.lba f = false := fun x hx => by
    rw [Bool.eq_false_iff]
    intro hh
    obtain ⟨y, hy, e⟩ := hasL_iff.1 hh
    have := (List.pairwise_append.1 hu).2.2 y (by simp [hy]) x hx
    omega
  have hAo : ∀ x ∈ A, x ∉ o := fun x hx hxo => by
    have := (List.pairwise_append.1 (List.pairwise_append.1 hm).1).2.2 x hx x hxo
    omega
  have hBo : ∀ x ∈ B, x ∉ o := fun x hx hxo => by
    have := (List.pairwise_append.1 hm).2.2 x (by simp [hxo]) x hx
    omega
  have hno : ∀ x : Rn, hasL x.lba f = false → ∀ y ∈ f, y.lba ≠ x.lba := fun x hx y hy e => by rw [hasL_iff.2 ⟨y, hy, e⟩] at hx; cases hx
  simp only [List.mem_append]
  constructor
  · rintro (h1 | ⟨⟨h1, h2⟩, h3⟩)
    · exact Or.inl (Or.inr h1)
    · have c : hasL x.lba f = false := by
        rw [Bool.eq_false_iff]
        intro hh
        obtain ⟨y, hy, e⟩ := hasL_iff.1 hh
        exact h3 y hy e
      have : x ∉ o := fun hxo => h2 ⟨hxo, c⟩
      rcases h1 with (h1 | h1) | h1
      · exact Or.inl (Or.inl h1)
      · exact absurd h1 this
      · exact Or.inr h1
  · rintro ((h1 | h1) | h1)
    · exact Or.inr ⟨⟨Or.inl (Or.inl h1), fun ⟨h2, _⟩ => hAo x h1 h2⟩, hno x (hA x h1)⟩
    · exact Or.inl h1
    · exact Or.inr ⟨⟨Or.inr h1, fun ⟨h2, _⟩ => hBo x h1 h2⟩, hno x (hB x h1)⟩
end Tg
end Go.Proofs.Ytbdankhlbepjoaa
