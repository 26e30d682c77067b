/-
  Scripts as mathematics, second part: texts one behind the other, remarks and blanks between; what is read is within its bounds; numbers as the library tells them.
-/
import Derived.Test.YtgilagmgepogbaaDoorKm
import Derived.Test.YtgilagmgepogbaaDoorRead
import Derived.Lib.ItoaNum
set_option linter.unusedVariables false
namespace Go.Proofs.YtgilagmgepogbaaDoor
namespace Km
open Qm Tg

theorem two_some {r : List Nat} {x : Int × Int × List Nat} (h : two r = some x) : num (wrd r) = some x.1 ∧ num (wrd (rst r)) = some x.2.1 ∧ x.2.2 = rst (rst r) := by
  unfold two at h
  cases h1 : num (wrd r) with
  | none => rw [h1] at h; cases h
  | some a =>
    cases h2 : num (wrd (rst r)) with
    | none => rw [h1, h2] at h; cases h
    | some b => rw [h1, h2] at h; simp at h; subst h; exact ⟨rfl, rfl, rfl⟩
theorem rng_ok {k : Nat} (hk : k = 114 ∨ k = 116) {r : List Nat} {c : Cm} (h : rng k r = some c) : c.Ok ∧ c.d.length ≤ r.length := by
  unfold rng at h
  cases h1 : two r with
  | none => rw [h1] at h; cases h
  | some x =>
    rw [h1] at h
    simp only [Option.bind_some] at h
    split at h
    · obtain ⟨e1, e2, _⟩ := two_some h1
      have b1 := num_bd e1; have b2 := num_bd e2
      simp at h; subst h
      exact ⟨⟨by unfold Kind; simp only; omega, b1.1, b1.2, b2.1, b2.2, by simp, by simp only; omega, by simp only; omega, fun _ => rfl⟩, by simp⟩
    · cases h
theorem cnt_ok {k : Nat} (hk : k = 99 ∨ k = 102 ∨ k = 109) {r : List Nat} {c : Cm} (h : cnt k r = some c) : c.Ok ∧ c.d.length ≤ r.length := by
  unfold cnt at h
  cases h1 : num (wrd r) with
  | none => rw [h1] at h; cases h
  | some a =>
    rw [h1] at h
    simp only [Option.bind_some] at h
    split at h
    · have b1 := num_bd h1
      simp at h; subst h
      exact ⟨⟨by unfold Kind; simp only; omega, b1.1, b1.2, by simp, by simp, by simp, by simp, by simp only; omega, fun _ => rfl⟩, by simp⟩
    · cases h
theorem wri_ok {r : List Nat} (hb : ∀ x ∈ r, x < 256) {c : Cm} (h : wri r = some c) : c.Ok ∧ c.d.length ≤ r.length := by
  unfold wri at h
  cases h1 : two r with
  | none => rw [h1] at h; cases h
  | some x =>
    rw [h1] at h
    simp only [Option.bind_some] at h
    cases h2 : Qm.read (skp x.2.2) with
    | none => rw [h2] at h; cases h
    | some y =>
      rw [h2] at h
      simp only [Option.bind_some] at h
      split at h
      · obtain ⟨e1, e2, e3⟩ := two_some h1
        have b1 := num_bd e1; have b2 := num_bd e2
        have hy := read_bytes (fun z hz => hb z (rst_mem (rst_mem (e3 ▸ skp_mem hz)))) h2
        obtain ⟨_, e4⟩ := read_some h2
        have e5 := congrArg List.length e4
        rw [List.length_append] at e5
        have e6 := told_long y.1
        have e7 := skp_len x.2.2
        have e8 : x.2.2.length ≤ r.length := by rw [e3]; exact Nat.le_trans (rst_len _) (rst_len _)
        simp at h; subst h
        exact ⟨⟨by unfold Kind; simp, b1.1, b1.2, b2.1, b2.2, hy, by simp, by simp, by simp⟩, by simp only; omega⟩
      · cases h
/-- What a line says is within its bounds. -/
theorem cmd_ok {l : List Nat} (hb : ∀ x ∈ l, x < 256) {c : Cm} (h : cmd l = some c) : c.Ok ∧ c.d.length ≤ l.length := by
  have hl := rst_len l
  unfold cmd at h
  split at h
  · have := rng_ok (Or.inl rfl) h; exact ⟨this.1, by omega⟩
  split at h
  · have := wri_ok (fun x hx => hb x (rst_mem hx)) h; exact ⟨this.1, by omega⟩
  split at h
  · have := rng_ok (Or.inr rfl) h; exact ⟨this.1, by omega⟩
  split at h
  · have := cnt_ok (Or.inl rfl) h; exact ⟨this.1, by omega⟩
  split at h
  · have := cnt_ok (Or.inr (Or.inl rfl)) h; exact ⟨this.1, by omega⟩
  split at h
  · split at h
    · simp at h; subst h
      exact ⟨⟨by unfold Kind; simp, by simp, by simp, by simp, by simp, by simp, by simp, by simp, fun _ => rfl⟩, by simp⟩
    · have := cnt_ok (Or.inr (Or.inr rfl)) h; exact ⟨this.1, by omega⟩
  split at h
  · split at h
    · simp at h; subst h
      exact ⟨⟨by unfold Kind; simp, by simp, by simp, by simp, by simp, by simp, by simp, by simp, fun _ => rfl⟩, by simp⟩
    · cases h
  split at h
  · split at h
    · simp at h; subst h
      exact ⟨⟨by unfold Kind; simp, by simp, by simp, by simp, by simp, by simp, by simp, by simp, fun _ => rfl⟩, by simp⟩
    · cases h
  · cases h
theorem par_ok : ∀ (ls : List (List Nat)) (B : Nat), (∀ l ∈ ls, (∀ x ∈ l, x < 256) ∧ l.length ≤ B) → ∀ (i : Nat) (acc : List Cm), (∀ c ∈ acc, c.Ok ∧ c.d.length ≤ B) → (∀ c ∈ (par ls i acc).1, c.Ok ∧ c.d.length ≤ B) ∧ (par ls i acc).1.length ≤ acc.length + ls.length
  | [], B, _, i, acc, h => by simp only [par]; exact ⟨h, by simp⟩
  | l :: ls, B, hl, i, acc, h => by
    simp only [par]
    have hr := fun x hx => hl x (List.mem_cons_of_mem _ hx)
    split
    · have := par_ok ls B hr (i + 1) acc h
      exact ⟨this.1, by have := this.2; simp only [List.length_cons]; omega⟩
    · cases hc : cmd l with
      | none => simp
      | some c =>
        have h1 := hl l (List.mem_cons_self ..)
        have h2 := cmd_ok h1.1 hc
        have := par_ok ls B hr (i + 1) (acc ++ [c]) (fun x hx => by
          rcases List.mem_append.1 hx with hx | hx
          · exact h x hx
          · simp at hx; subst hx; exact ⟨h2.1, by have := h1.2; omega⟩)
        simp only
        exact ⟨this.1, by have := this.2; simp only [List.length_append, List.length_cons, List.length_nil] at *; omega⟩
/-- What a text is read as is within its bounds. -/
theorem parse_ok {t : List Nat} (hb : ∀ x ∈ t, x < 256) : (∀ c ∈ (parse t).1, c.Ok ∧ c.d.length ≤ 16384) ∧ (parse t).1.length ≤ 1000 := by
  unfold parse
  split
  · simp
  · rename_i h
    have := par_ok (lin [] t) 16384 (fun l hl => by
      have := lin_mem t [] (by simp) l hl
      refine ⟨fun x hx => ?_, by have := this.2; simp at this; omega⟩
      rcases (this.1 x hx).2 with h | h
      · cases h
      · exact hb x h) 0 [] (by simp)
    exact ⟨this.1, by have := this.2; simp at this; omega⟩

/-! ### One text behind the other -/
theorem lin_join (b : List Nat) : ∀ (a cur : List Nat), ∃ ms : List (List Nat), (ms = [] ∨ ms = [[]]) ∧ lin cur (a ++ 10 :: b) = lin cur a ++ (ms ++ lin [] b)
  | [], cur => by
    simp only [List.nil_append, lin, if_true]
    by_cases h : cur = []
    · exact ⟨[[]], Or.inr rfl, by simp [h]⟩
    · exact ⟨[], Or.inl rfl, by simp [h]⟩
  | c :: a, cur => by
    simp only [List.cons_append, lin]
    split
    · obtain ⟨ms, h1, h2⟩ := lin_join b a []
      exact ⟨ms, h1, by rw [h2]; rfl⟩
    · exact lin_join b a _
/-- What is read of two texts, one behind the other. -/
theorem parse_join {a b : List Nat} (ha : a.length ≤ 7000) (hb : b.length ≤ 7000) (hl : (lin [] a).length + (lin [] b).length ≤ 900) :
    ((parse a).2.2 ≠ 0 → (parse a).2.2 = 3 ∧ (parse (a ++ 10 :: b)).2 = (parse a).2) ∧
    ((parse a).2.2 = 0 → (parse b).2.2 ≠ 0 → (parse b).2.2 = 3 ∧ (parse (a ++ 10 :: b)).2.2 = 3 ∧ (parse b).2.1 ≤ (parse (a ++ 10 :: b)).2.1) ∧
    ((parse a).2.2 = 0 → (parse b).2.2 = 0 → (parse (a ++ 10 :: b)).2.2 = 0 ∧ (parse (a ++ 10 :: b)).1 = (parse a).1 ++ (parse b).1) := by
  obtain ⟨ms, hm, he⟩ := lin_join b a []
  have hm1 : ms.length ≤ 1 ∧ ∀ l ∈ ms, over l = true := by rcases hm with rfl | rfl <;> simp [over, skp]
  have ea : parse a = par (lin [] a) 0 [] := by unfold parse; rw [if_neg (by omega)]
  have eb : parse b = par (lin [] b) 0 [] := by unfold parse; rw [if_neg (by omega)]
  have ej : parse (a ++ 10 :: b) = par (lin [] a ++ (ms ++ lin [] b)) 0 [] := by
    unfold parse
    rw [he, if_neg (by simp only [List.length_append, List.length_cons]; omega)]
  rw [ea, eb, ej, par_app, par_app, par_over ms hm1.2]
  have e1 := par_err (lin [] a) 0 []
  have e2 := par_err (lin [] b) 0 []
  have e3 := par_shift (lin [] b) (0 + (lin [] a).length + ms.length) 0 (par (lin [] a) 0 []).1
  refine ⟨fun h => ?_, fun h h2 => ?_, fun h h2 => ?_⟩
  · rw [if_neg h]
    rcases e1 with e1 | e1
    · exact absurd e1.1 h
    · exact ⟨e1.1, rfl⟩
  · rw [if_pos h]
    simp only [if_true]
    rcases e2 with e2 | e2
    · exact absurd e2.1 h2
    · exact ⟨e2.1, by rw [e3.1]; exact e2.1, by have := (e3.2.2 h2).2; omega⟩
  · rw [if_pos h]
    simp only [if_true]
    exact ⟨by rw [e3.1]; exact h2, (e3.2.1 h2).1⟩

/-! ### Told, read back, with remarks and blanks between -/
theorem par_back {L : List Cm} (hL : ∀ c ∈ L, c.Ok) {pre post : List (List Nat)} (h1 : ∀ l ∈ pre, over l = true) (h2 : ∀ l ∈ post, over l = true) : par (pre ++ (L.map txt ++ post)) 0 [] = (L, 0, 0) := by
  rw [par_app, par_over pre h1, if_pos rfl, par_app, par_txt L hL, if_pos rfl, par_over post h2]
  simp
theorem parse_back {L : List Cm} (hL : ∀ c ∈ L, c.Ok) (h1 : (prt L).length ≤ 7000) (h2 : L.length ≤ 900) : parse (prt L) = (L, 0, 0) := by
  have hl := lin_prt L []
  rw [List.append_nil] at hl
  have e : lin [] ([] : List Nat) = [] := rfl
  have := par_back hL (pre := []) (post := []) (by simp) (by simp)
  unfold parse
  rw [hl, e, if_neg (by simp; omega)]
  simpa using this
theorem parse_gap {L : List Cm} (hL : ∀ c ∈ L, c.Ok) (h1 : (prt L).length ≤ 7000) (h2 : L.length ≤ 900) {g : List Nat} (hg : ∀ x ∈ g, x ≠ 10) (hn : g.length ≤ 100) :
    parse ([35, 32] ++ g ++ [10, 9, 32, 10] ++ prt L ++ [32, 32, 35, 32] ++ g) = (L, 0, 0) := by
  have hl : lin [] ([35, 32] ++ g ++ [10, 9, 32, 10] ++ prt L ++ [32, 32, 35, 32] ++ g) = [[35, 32] ++ g, [9, 32]] ++ (L.map txt ++ [[32, 32, 35, 32] ++ g]) := by
    have e : [35, 32] ++ g ++ [10, 9, 32, 10] ++ prt L ++ [32, 32, 35, 32] ++ g = ([35, 32] ++ g) ++ 10 :: ([9, 32] ++ 10 :: (prt L ++ ([32, 32, 35, 32] ++ g))) := by simp
    have n1 : ∀ x ∈ [35, 32] ++ g, x ≠ 10 := fun x hx => by
      rcases List.mem_append.1 hx with h | h
      · simp at h; omega
      · exact hg x h
    have n3 : ∀ x ∈ [32, 32, 35, 32] ++ g, x ≠ 10 := fun x hx => by
      rcases List.mem_append.1 hx with h | h
      · simp at h; omega
      · exact hg x h
    rw [e, lin_line n1, lin_line (by decide), lin_prt, lin_last n3 (by simp)]
    rfl
  have := par_back hL (pre := [[35, 32] ++ g, [9, 32]]) (post := [[32, 32, 35, 32] ++ g]) (by intro l hl; simp at hl; rcases hl with rfl | rfl <;> simp [over, skp, bl]) (by intro l hl; simp at hl; subst hl; simp [over, skp, bl])
  unfold parse
  rw [hl, if_neg (by simp; omega)]
  exact this

/-! ### Numbers as the library tells them -/
theorem dec_lib (u : Nat) : (dec u).map UInt8.ofNat = Lib.decDigits u := by
  induction u using Nat.strongRecOn with
  | _ u ih =>
    by_cases h : u < 10
    · rw [dec_small h, Lib.decDigits, dif_pos h]; rfl
    · rw [dec_big h, Lib.decDigits, dif_neg h, List.map_append, ih (u / 10) (by omega)]; rfl
theorem nt_lib (n : Int) : (⟨(Lib.itoa n).toArray⟩ : ByteArray) = str (nt n) := by
  unfold str nt Lib.itoa
  split
  · rw [List.map_cons, dec_lib]; rfl
  · rw [dec_lib]
end Km
end Go.Proofs.YtgilagmgepogbaaDoor
