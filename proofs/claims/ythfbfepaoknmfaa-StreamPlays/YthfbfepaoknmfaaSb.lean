/-
  Streams of commands as mathematics: what each expects, how long it is, in which order they were used; and the same by stamps.
-/
import Derived.Test.YthfbfepaoknmfaaSa
namespace Go.Proofs.Ythfbfepaoknmfaa
namespace Tg
/-- Streams: what each expects, how long it has gone on, all of them from the one used longest ago to the one used last. -/
structure St where
  ex : List Int
  lg : List Int
  od : List Nat
def St.new (n : Nat) : St := ⟨List.replicate n (-1), List.replicate n 0, List.range n⟩
/-- The stream that expects a sector, the one used last of several. -/
def St.hit (s : St) (lba : Int) : Option Nat := s.od.reverse.find? (fun i => decide (s.ex[i]? = some lba))
/-- The stream that a command belongs to. -/
def St.pos (s : St) (lba : Int) : Nat := (s.hit lba).getD (s.od.headD 0)
/-- How long it is behind the command. -/
def St.len (s : St) (lba : Int) : Int := match s.hit lba with
  | some i => s.lg.getD i 0 + 1
  | none => 1
def St.feed (s : St) (lba n : Int) : St := ⟨s.ex.set (s.pos lba) (lba + n), s.lg.set (s.pos lba) (s.len lba), s.od.erase (s.pos lba) ++ [s.pos lba]⟩
/-- May a command be? -/
def okC (lba n : Int) : Bool := decide (0 ≤ lba) && (decide (1 ≤ n) && decide (lba + n ≤ 1073741824))
theorem okC_iff {lba n : Int} : okC lba n = true ↔ 0 ≤ lba ∧ 1 ≤ n ∧ lba + n ≤ 1073741824 := by simp [okC]
structure St.Ok (s : St) (n : Nat) : Prop where
  ex : s.ex.length = n
  lg : s.lg.length = n
  mem : ∀ i, i ∈ s.od ↔ i < n
  nd : s.od.Nodup
  pos : 1 ≤ n
theorem new_okS {n : Nat} (h : 1 ≤ n) : (St.new n).Ok n := ⟨by simp [St.new], by simp [St.new], by simp [St.new], by simp [St.new, List.nodup_range], h⟩
theorem hit_some {s : St} {lba : Int} {i : Nat} (h : s.hit lba = some i) : i ∈ s.od ∧ s.ex[i]? = some lba := by
  unfold St.hit at h
  have h1 := List.find?_some h
  have h2 := List.mem_of_find?_eq_some h
  exact ⟨List.mem_reverse.1 h2, by simpa using h1⟩
theorem hit_none {s : St} {lba : Int} (h : s.hit lba = none) : ∀ i ∈ s.od, s.ex[i]? ≠ some lba := by
  unfold St.hit at h
  intro i hi
  have := List.find?_eq_none.1 h i (List.mem_reverse.2 hi)
  simpa using this
theorem St.Ok.pos_mem {s : St} {n : Nat} (h : s.Ok n) (lba : Int) : s.pos lba ∈ s.od := by
  unfold St.pos
  cases hh : s.hit lba with
  | some i => exact (hit_some hh).1
  | none =>
    have := (h.mem 0).2 h.pos
    cases ho : s.od with
    | nil => rw [ho] at this; cases this
    | cons a l => simp
theorem St.Ok.pos_lt {s : St} {n : Nat} (h : s.Ok n) (lba : Int) : s.pos lba < n := (h.mem _).1 (h.pos_mem lba)
theorem St.Ok.feed {s : St} {n : Nat} (h : s.Ok n) (lba m : Int) : (s.feed lba m).Ok n := by
  have hm := h.pos_mem lba
  refine ⟨by simp [St.feed, h.ex], by simp [St.feed, h.lg], fun i => ?_, ?_, h.pos⟩
  · rw [← h.mem i]
    unfold St.feed
    simp only [List.mem_append, List.mem_singleton]
    rw [h.nd.mem_erase_iff]
    constructor
    · rintro (⟨_, h2⟩ | rfl)
      · exact h2
      · exact hm
    · intro hi
      by_cases e : i = s.pos lba
      · exact Or.inr e
      · exact Or.inl ⟨e, hi⟩
  · unfold St.feed
    simp only
    rw [List.nodup_append]
    refine ⟨h.nd.erase _, by simp, ?_⟩
    intro a ha b hb e
    simp at hb
    subst hb
    subst e
    exact (h.nd.not_mem_erase) ha
/-- Stamps that tell the order. -/
structure Stp (us : List Int) (now : Int) (s : St) (n : Nat) : Prop where
  len : us.length = n
  bd : ∀ i, i < n → 0 ≤ us.getD i 0 ∧ us.getD i 0 ≤ now
  ord : s.od.Pairwise (fun i j => us.getD i 0 < us.getD j 0 ∨ (us.getD i 0 = us.getD j 0 ∧ i < j))
  one : ∀ i j, i < n → j < n → us.getD i 0 = us.getD j 0 → i = j ∨ us.getD i 0 = 0
  zero : ∀ i, i < n → us.getD i 0 = 0 → s.ex[i]? = some (-1)
  now : 0 ≤ now
theorem getD_rep (n i : Nat) : (List.replicate n (0 : Int)).getD i 0 = 0 := by
  rw [List.getD_eq_getElem?_getD]
  by_cases h : i < n
  · simp [h]
  · rw [List.getElem?_eq_none (by simp; omega)]; rfl
theorem range_lt (n : Nat) : (List.range n).Pairwise (fun i j => i < j) := List.pairwise_lt_range
theorem stp_new (n : Nat) : Stp (List.replicate n 0) 0 (St.new n) n := by
  refine ⟨by simp, fun i _ => by rw [getD_rep]; omega, ?_, fun i j _ _ _ => Or.inr (getD_rep n i), fun i hi _ => by simp [St.new, hi], by omega⟩
  unfold St.new
  refine (range_lt n).imp ?_
  intro i j h
  exact Or.inr ⟨by rw [getD_rep, getD_rep], h⟩
/-- The greatest stamp among those that expect it is the one used last. -/
theorem hit_of {us : List Int} {now : Int} {s : St} {n : Nat} (hS : Stp us now s n) (hO : s.Ok n) {lba : Int} (hl : 0 ≤ lba) {j : Nat} (hj : s.ex[j]? = some lba) (hmax : ∀ i, i < n → s.ex[i]? = some lba → us.getD i 0 ≤ us.getD j 0) : s.hit lba = some j := by
  have hjn : j < n := by rw [← hO.ex]; exact (List.getElem?_eq_some_iff.1 hj).1
  obtain ⟨A, B, e⟩ := List.append_of_mem ((hO.mem j).2 hjn)
  have hB : ∀ i ∈ B, s.ex[i]? ≠ some lba := fun i hi hx => by
    have ho := hS.ord
    rw [e, List.pairwise_append, List.pairwise_cons] at ho
    have hin : i < n := (hO.mem i).1 (by rw [e]; simp [hi])
    have h1 := ho.2.1.1 i hi
    have h2 := hmax i hin hx
    rcases h1 with h1 | ⟨h1, h3⟩
    · omega
    · rcases hS.one j i hjn hin h1 with h4 | h4
      · omega
      · have := hS.zero j hjn h4
        rw [hj] at this
        injection this with this
        omega
  unfold St.hit
  rw [e, List.reverse_append, List.reverse_cons, List.append_assoc, List.find?_append]
  have : B.reverse.find? (fun i => decide (s.ex[i]? = some lba)) = none := by
    rw [List.find?_eq_none]
    intro i hi
    simpa using hB i (List.mem_reverse.1 hi)
  rw [this]
  simp [hj]
theorem hit_no {s : St} {n : Nat} (hO : s.Ok n) {lba : Int} (h : ∀ i, i < n → s.ex[i]? ≠ some lba) : s.hit lba = none := by
  unfold St.hit
  rw [List.find?_eq_none]
  intro i hi
  simpa using h i ((hO.mem i).1 (List.mem_reverse.1 hi))
/-- The least stamp, the least number of these, is the one used longest ago. -/
theorem head_of {us : List Int} {now : Int} {s : St} {n : Nat} (hS : Stp us now s n) (hO : s.Ok n) {j : Nat} (hj : j < n) (hmin : ∀ i, i < n → us.getD j 0 < us.getD i 0 ∨ (us.getD j 0 = us.getD i 0 ∧ j ≤ i)) : s.od.headD 0 = j := by
  have hm := (hO.mem j).2 hj
  have ho := hS.ord
  cases e : s.od with
  | nil => rw [e] at hm; cases hm
  | cons a l =>
    rw [e] at hm ho
    rcases List.mem_cons.1 hm with rfl | hm
    · rfl
    · have h1 := (List.pairwise_cons.1 ho).1 j hm
      have h2 := hmin a ((hO.mem a).1 (by rw [e]; simp))
      exfalso
      omega
theorem getD_set (l : List Int) (i j : Nat) (v : Int) (h : i < l.length) : (l.set i v).getD j 0 = if j = i then v else l.getD j 0 := by
  rw [List.getD_eq_getElem?_getD, List.getD_eq_getElem?_getD, List.getElem?_set]
  by_cases e : i = j
  · subst e; simp [h]
  · rw [if_neg e, if_neg (fun h => e h.symm)]
theorem stp_feed {us : List Int} {now : Int} {s : St} {n : Nat} (hS : Stp us now s n) (hO : s.Ok n) {lba m : Int} : Stp (us.set (s.pos lba) (now + 1)) (now + 1) (s.feed lba m) n := by
  have hp := hO.pos_lt lba
  have hpl : s.pos lba < us.length := by rw [hS.len]; exact hp
  have hnow := hS.now
  refine ⟨by simp [hS.len], fun i hi => ?_, ?_, fun i j hi hj h => ?_, fun i hi h => ?_, by omega⟩
  · rw [getD_set _ _ _ _ hpl]
    have := hS.bd i hi
    split <;> omega
  · unfold St.feed
    simp only
    rw [List.pairwise_append]
    refine ⟨?_, by simp, ?_⟩
    · have h1 : (s.od.erase (s.pos lba)).Pairwise (fun i j => us.getD i 0 < us.getD j 0 ∨ (us.getD i 0 = us.getD j 0 ∧ i < j)) := hS.ord.sublist List.erase_sublist
      refine (List.Pairwise.and_mem.1 h1).imp ?_
      rintro i j ⟨hi, hj, h⟩
      rw [hO.nd.mem_erase_iff] at hi hj
      rw [getD_set _ _ _ _ hpl, getD_set _ _ _ _ hpl, if_neg hi.1, if_neg hj.1]
      exact h
    · intro i hi j hj
      simp at hj
      subst hj
      rw [hO.nd.mem_erase_iff] at hi
      rw [getD_set _ _ _ _ hpl, getD_set _ _ _ _ hpl, if_neg hi.1, if_pos rfl]
      have := hS.bd i ((hO.mem i).1 hi.2)
      left
      omega
  · rw [getD_set _ _ _ _ hpl, getD_set _ _ _ _ hpl] at h
    rw [getD_set _ _ _ _ hpl]
    have b1 := hS.bd i hi
    have b2 := hS.bd j hj
    by_cases e1 : i = s.pos lba
    · by_cases e2 : j = s.pos lba
      · left; omega
      · rw [if_pos e1, if_neg e2] at h; omega
    · by_cases e2 : j = s.pos lba
      · rw [if_neg e1, if_pos e2] at h; omega
      · rw [if_neg e1, if_neg e2] at h
        rw [if_neg e1]
        exact hS.one i j hi hj h
  · rw [getD_set _ _ _ _ hpl] at h
    by_cases e1 : i = s.pos lba
    · rw [if_pos e1] at h; omega
    · rw [if_neg e1] at h
      have := hS.zero i hi h
      unfold St.feed
      simp only
      rw [List.getElem?_set, if_neg (fun e => e1 e.symm)]
      exact this
end Tg
end Go.Proofs.Ythfbfepaoknmfaa
