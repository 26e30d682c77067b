/-
  Scripts as mathematics: words, lines, numbers, commands, what they are told as, and back. Bytes are numbers below 256. No condition but the bounds that each law names.
-/
import Derived.Test.YtgilagmgepogbaaDoorQm
set_option linter.unusedVariables false
namespace Go.Proofs.YtgilagmgepogbaaDoor
namespace Km
open Qm

def bl (c : Nat) : Bool := c == 32 || c == 9
/-- What ends a word. -/
def we (c : Nat) : Bool := c == 32 || c == 9 || c == 10
def skp (t : List Nat) : List Nat := t.dropWhile bl
def wrd (t : List Nat) : List Nat := (skp t).takeWhile (fun c => !we c)
def rst (t : List Nat) : List Nat := (skp t).dropWhile (fun c => !we c)
def lin : List Nat → List Nat → List (List Nat)
  | cur, [] => if cur = [] then [] else [cur]
  | cur, c :: t => if c = 10 then cur :: lin [] t else lin (cur ++ [c]) t
def dgs : List Nat → Nat → Option Nat
  | [], a => some a
  | c :: t, a => if 48 ≤ c ∧ c ≤ 57 then dgs t (10 * a + (c - 48)) else none
def ng (w : List Nat) : Bool := w.headD 0 == 45
def dig (w : List Nat) : List Nat := if ng w then w.drop 1 else w
def num (w : List Nat) : Option Int := if dig w = [] ∨ 9 < (dig w).length then none else (dgs (dig w) 0).map (fun n : Nat => if ng w then -(n : Int) else (n : Int))
def ends (t : List Nat) : Bool := skp t == []

structure Cm where
  k : Nat
  a : Int
  b : Int
  d : List Nat
deriving DecidableEq

def sRead : List Nat := [114, 101, 97, 100]
def sWrite : List Nat := [119, 114, 105, 116, 101]
def sTrim : List Nat := [116, 114, 105, 109]
def sCut : List Nat := [99, 117, 116]
def sFail : List Nat := [102, 97, 105, 108]
def sMount : List Nat := [109, 111, 117, 110, 116]
def sShow : List Nat := [115, 104, 111, 119]
def sStat : List Nat := [115, 116, 97, 116]

/-- Two numbers, and what stands behind. -/
def two (r : List Nat) : Option (Int × Int × List Nat) := (num (wrd r)).bind fun a => (num (wrd (rst r))).bind fun b => some (a, b, rst (rst r))
def rng (k : Nat) (r : List Nat) : Option Cm := (two r).bind fun x => if ends x.2.2 then some ⟨k, x.1, x.2.1, []⟩ else none
def wri (r : List Nat) : Option Cm := (two r).bind fun x => (Qm.read (skp x.2.2)).bind fun y => if ends ((skp x.2.2).drop y.2) then some ⟨119, x.1, x.2.1, y.1⟩ else none
def cnt (k : Nat) (r : List Nat) : Option Cm := (num (wrd r)).bind fun a => if ends (rst r) then some ⟨k, a, 0, []⟩ else none
/-- A line's command. -/
def cmd (l : List Nat) : Option Cm :=
  if wrd l = sRead then rng 114 (rst l) else if wrd l = sWrite then wri (rst l) else if wrd l = sTrim then rng 116 (rst l)
  else if wrd l = sCut then cnt 99 (rst l) else if wrd l = sFail then cnt 102 (rst l)
  else if wrd l = sMount then (if ends (rst l) then some ⟨109, -1, 0, []⟩ else cnt 109 (rst l))
  else if wrd l = sShow then (if ends (rst l) then some ⟨115, 0, 0, []⟩ else none)
  else if wrd l = sStat then (if ends (rst l) then some ⟨105, 0, 0, []⟩ else none) else none
/-- Is a line passed over? -/
def over (l : List Nat) : Bool := skp l == [] || (skp l).headD 0 == 35
def par : List (List Nat) → Nat → List Cm → List Cm × Nat × Nat
  | [], _, acc => (acc, 0, 0)
  | l :: ls, i, acc => if over l then par ls (i + 1) acc else match cmd l with | none => ([], i + 1, 3) | some c => par ls (i + 1) (acc ++ [c])
def parse (t : List Nat) : List Cm × Nat × Nat := if 16384 < t.length ∨ 1000 < (lin [] t).length then ([], 0, 2) else par (lin [] t) 0 []

def dec (u : Nat) : List Nat := if h : u < 10 then [48 + u] else dec (u / 10) ++ [48 + u % 10]
termination_by u
decreasing_by omega
def nt (n : Int) : List Nat := if n < 0 then 45 :: dec n.natAbs else dec n.toNat
/-- What a command is told as. -/
def txt (c : Cm) : List Nat :=
  if c.k = 114 then sRead ++ (32 :: nt c.a ++ (32 :: nt c.b)) else if c.k = 119 then sWrite ++ (32 :: nt c.a ++ (32 :: nt c.b ++ (32 :: told c.d)))
  else if c.k = 116 then sTrim ++ (32 :: nt c.a ++ (32 :: nt c.b)) else if c.k = 99 then sCut ++ (32 :: nt c.a) else if c.k = 102 then sFail ++ (32 :: nt c.a)
  else if c.k = 109 then (if c.a = -1 then sMount else sMount ++ (32 :: nt c.a)) else if c.k = 115 then sShow else sStat
def prt (L : List Cm) : List Nat := L.flatMap fun c => txt c ++ [10]

def Kind (k : Nat) : Prop := k = 114 ∨ k = 119 ∨ k = 116 ∨ k = 99 ∨ k = 102 ∨ k = 109 ∨ k = 115 ∨ k = 105
structure Cm.Ok (c : Cm) : Prop where
  kind : Kind c.k
  a0 : -999999999 ≤ c.a
  a1 : c.a ≤ 999999999
  b0 : -999999999 ≤ c.b
  b1 : c.b ≤ 999999999
  byte : ∀ x ∈ c.d, x < 256
  nob : c.k = 99 ∨ c.k = 102 ∨ c.k = 109 ∨ c.k = 115 ∨ c.k = 105 → c.b = 0
  noa : c.k = 115 ∨ c.k = 105 → c.a = 0
  nod : c.k ≠ 119 → c.d = []

/-! ### Words -/
theorem wrd_rst (t : List Nat) : wrd t ++ rst t = skp t := List.takeWhile_append_dropWhile
theorem skp_cons_bl {c : Nat} {t : List Nat} (h : bl c = true) : skp (c :: t) = skp t := by simp [skp, h]
theorem skp_cons_no {c : Nat} {t : List Nat} (h : bl c = false) : skp (c :: t) = c :: t := by simp [skp, h]
theorem skp_len (t : List Nat) : (skp t).length ≤ t.length := (List.dropWhile_sublist _).length_le
theorem skp_suffix (t : List Nat) : ∃ p, t = p ++ skp t := ⟨t.takeWhile bl, (List.takeWhile_append_dropWhile).symm⟩
theorem rst_len (t : List Nat) : (rst t).length ≤ t.length := Nat.le_trans (List.dropWhile_sublist _).length_le (skp_len t)
theorem wrd_len (t : List Nat) : (wrd t).length ≤ t.length := Nat.le_trans (List.takeWhile_sublist _).length_le (skp_len t)
theorem skp_mem {t : List Nat} {x : Nat} (h : x ∈ skp t) : x ∈ t := (List.dropWhile_sublist _).mem h
theorem rst_mem {t : List Nat} {x : Nat} (h : x ∈ rst t) : x ∈ t := skp_mem ((List.dropWhile_sublist _).mem h)
theorem wrd_mem {t : List Nat} {x : Nat} (h : x ∈ wrd t) : x ∈ t := skp_mem ((List.takeWhile_sublist _).mem h)

theorem take_all {p : Nat → Bool} : ∀ {w r : List Nat}, (∀ x ∈ w, p x = true) → (r = [] ∨ p (r.headD 0) = false) → (w ++ r).takeWhile p = w ∧ (w ++ r).dropWhile p = r
  | [], r, _, h => by
    cases r with
    | nil => simp
    | cons c q => rcases h with h | h
                  · cases h
                  · simp at h; simp [h]
  | c :: w, r, hw, h => by
    have ih := take_all (w := w) (fun x hx => hw x (List.mem_cons_of_mem _ hx)) h
    have hc := hw c (List.mem_cons_self ..)
    simp [hc, ih]
/-- A word, with what ends it behind. -/
theorem wrd_is {w r : List Nat} (hne : w ≠ []) (hw : ∀ x ∈ w, we x = false) (hr : r = [] ∨ we (r.headD 0) = true) : wrd (w ++ r) = w ∧ rst (w ++ r) = r ∧ skp (w ++ r) = w ++ r := by
  have hs : skp (w ++ r) = w ++ r := by
    cases w with
    | nil => exact absurd rfl hne
    | cons c q =>
      have := hw c (List.mem_cons_self ..)
      simp only [we, Bool.or_eq_false_iff] at this
      exact skp_cons_no (by simp [bl, this.1])
  unfold wrd rst
  rw [hs]
  have := take_all (p := fun c => !we c) (w := w) (r := r) (fun x hx => by simp [hw x hx]) (by rcases hr with h | h; exact Or.inl h; exact Or.inr (by show (!we (r.headD 0)) = false; rw [h]; rfl))
  exact ⟨this.1, this.2, rfl⟩
/-- The same behind a blank. -/
theorem wrd_bl {w r : List Nat} (hne : w ≠ []) (hw : ∀ x ∈ w, we x = false) (hr : r = [] ∨ we (r.headD 0) = true) : wrd (32 :: (w ++ r)) = w ∧ rst (32 :: (w ++ r)) = r := by
  have e : skp (32 :: (w ++ r)) = skp (w ++ r) := skp_cons_bl rfl
  have := wrd_is hne hw hr
  unfold wrd rst at *
  rw [e]
  exact ⟨this.1, this.2.1⟩

/-! ### Numbers -/
theorem dec_small {u : Nat} (h : u < 10) : dec u = [48 + u] := by rw [dec, dif_pos h]
theorem dec_big {u : Nat} (h : ¬ u < 10) : dec u = dec (u / 10) ++ [48 + u % 10] := by rw [dec, dif_neg h]
theorem dec_ne (u : Nat) : dec u ≠ [] := by
  by_cases h : u < 10
  · rw [dec_small h]; simp
  · rw [dec_big h]; simp
theorem dec_dig (u : Nat) : ∀ x ∈ dec u, 48 ≤ x ∧ x ≤ 57 := by
  induction u using Nat.strongRecOn with
  | _ u ih =>
    by_cases h : u < 10
    · rw [dec_small h]; intro x hx; simp at hx; omega
    · rw [dec_big h]; intro x hx
      rcases List.mem_append.1 hx with hx | hx
      · exact ih (u / 10) (by omega) x hx
      · simp at hx; omega
theorem dgs_app : ∀ (l m : List Nat) (a : Nat), dgs (l ++ m) a = (dgs l a).bind (dgs m)
  | [], m, a => by simp [dgs]
  | c :: l, m, a => by
    simp only [List.cons_append, dgs]
    split
    · exact dgs_app l m _
    · rfl
theorem dgs_dec (u : Nat) : dgs (dec u) 0 = some u := by
  induction u using Nat.strongRecOn with
  | _ u ih =>
    by_cases h : u < 10
    · rw [dec_small h]; simp [dgs]; omega
    · rw [dec_big h, dgs_app, ih (u / 10) (by omega)]
      simp [dgs]; omega
theorem dec_len : ∀ (k u : Nat), u < 10 ^ (k + 1) → (dec u).length ≤ k + 1
  | 0, u, h => by rw [dec_small (by simpa using h)]; simp
  | k + 1, u, h => by
    by_cases h1 : u < 10
    · rw [dec_small h1]; simp
    · rw [dec_big h1, List.length_append]
      have := dec_len k (u / 10) (by rw [Nat.pow_succ] at h; omega)
      simp; omega
theorem nt_ne (n : Int) : nt n ≠ [] := by
  unfold nt; split
  · simp
  · exact dec_ne _
theorem nt_we (n : Int) : ∀ x ∈ nt n, we x = false ∧ x ≠ 10 ∧ x < 128 := by
  intro x hx
  have : x = 45 ∨ (48 ≤ x ∧ x ≤ 57) := by
    unfold nt at hx
    split at hx
    · rcases List.mem_cons.1 hx with h | h
      · exact Or.inl h
      · exact Or.inr (dec_dig _ x h)
    · exact Or.inr (dec_dig _ x hx)
  refine ⟨?_, by omega, by omega⟩
  simp only [we, Bool.or_eq_false_iff, beq_eq_false_iff_ne]
  omega
theorem nt_len {n : Int} (h0 : -9223372036854775808 ≤ n) (h1 : n ≤ 9223372036854775807) : (nt n).length ≤ 21 := by
  unfold nt; split
  · have := dec_len 19 n.natAbs (by simp; omega)
    simp; omega
  · have := dec_len 19 n.toNat (by simp; omega)
    omega
theorem ng_dec (u : Nat) : ng (dec u) = false := by
  obtain ⟨c, q, e⟩ := List.exists_cons_of_ne_nil (dec_ne u)
  have := dec_dig u c (by rw [e]; exact List.mem_cons_self ..)
  simp [ng, e]; omega
theorem num_nt {n : Int} (h0 : -999999999 ≤ n) (h1 : n ≤ 999999999) : num (nt n) = some n := by
  unfold nt
  split
  · have e1 : ng (45 :: dec n.natAbs) = true := rfl
    have e2 : dig (45 :: dec n.natAbs) = dec n.natAbs := by simp [dig, e1]
    have := dec_len 8 n.natAbs (by simp; omega)
    unfold num
    rw [e1, e2, if_neg (by rintro (h | h); exact dec_ne _ h; omega), dgs_dec]
    simp; omega
  · have e1 := ng_dec n.toNat
    have e2 : dig (dec n.toNat) = dec n.toNat := by simp [dig, e1]
    have := dec_len 8 n.toNat (by simp; omega)
    unfold num
    rw [e1, e2, if_neg (by rintro (h | h); exact dec_ne _ h; omega), dgs_dec]
    simp; omega
theorem dgs_bd : ∀ (l : List Nat) (a v : Nat), dgs l a = some v → v < (a + 1) * 10 ^ l.length
  | [], a, v, h => by simp [dgs] at h; simp; omega
  | c :: l, a, v, h => by
    simp only [dgs] at h
    split at h
    · have := dgs_bd l _ v h
      rw [List.length_cons, Nat.pow_succ]
      have e : (a + 1) * (10 ^ l.length * 10) = (10 * a + 10) * 10 ^ l.length := by rw [Nat.mul_comm (10 ^ l.length) 10, ← Nat.mul_assoc]; congr 1; omega
      rw [e]
      exact Nat.lt_of_lt_of_le this (Nat.mul_le_mul_right _ (by omega))
    · cases h
theorem num_bd {w : List Nat} {n : Int} (h : num w = some n) : -999999999 ≤ n ∧ n ≤ 999999999 := by
  unfold num at h
  split at h
  · cases h
  · rename_i hn
    cases e : dgs (dig w) 0 with
    | none => rw [e] at h; cases h
    | some v =>
      rw [e] at h
      have h1 := dgs_bd _ _ _ e
      have h2 : 10 ^ (dig w).length ≤ 10 ^ 9 := Nat.pow_le_pow_right (by decide) (by omega)
      simp only [Option.map_some, Option.some.injEq] at h
      have h3 : v < 1000000000 := by simp at h1 h2; omega
      split at h <;> omega

/-! ### Lines -/
theorem lin_run : ∀ (l cur t : List Nat), (∀ x ∈ l, x ≠ 10) → lin cur (l ++ t) = lin (cur ++ l) t
  | [], cur, t, _ => by simp
  | c :: l, cur, t, h => by
    have hc := h c (List.mem_cons_self ..)
    simp only [List.cons_append, lin]
    rw [if_neg hc, lin_run l _ t (fun x hx => h x (List.mem_cons_of_mem _ hx))]
    simp
theorem lin_line {l : List Nat} (h : ∀ x ∈ l, x ≠ 10) (t : List Nat) : lin [] (l ++ 10 :: t) = l :: lin [] t := by
  rw [lin_run l [] _ h]; simp [lin]
theorem lin_last {l : List Nat} (h : ∀ x ∈ l, x ≠ 10) (hne : l ≠ []) : lin [] l = [l] := by
  have := lin_run l [] [] h
  rw [List.append_nil, List.nil_append] at this
  rw [this]; simp [lin, hne]
/-- Lines hold no byte 10, and only the text's bytes. -/
theorem lin_mem : ∀ (t cur : List Nat), (∀ x ∈ cur, x ≠ 10) → ∀ l ∈ lin cur t, (∀ x ∈ l, x ≠ 10 ∧ (x ∈ cur ∨ x ∈ t)) ∧ l.length ≤ cur.length + t.length
  | [], cur, h, l, hl => by
    simp only [lin] at hl
    split at hl
    · cases hl
    · simp at hl; subst hl; exact ⟨fun x hx => ⟨h x hx, Or.inl hx⟩, by simp⟩
  | c :: t, cur, h, l, hl => by
    simp only [lin] at hl
    split at hl
    · rcases List.mem_cons.1 hl with rfl | hl
      · exact ⟨fun x hx => ⟨h x hx, Or.inl hx⟩, by omega⟩
      · have := lin_mem t [] (by simp) l hl
        refine ⟨fun x hx => ⟨(this.1 x hx).1, ?_⟩, by have := this.2; simp at this ⊢; omega⟩
        rcases (this.1 x hx).2 with h | h
        · cases h
        · exact Or.inr (List.mem_cons_of_mem _ h)
    · rename_i hc
      have := lin_mem t (cur ++ [c]) (by intro x hx; rcases List.mem_append.1 hx with hx | hx; exact h x hx; simp at hx; omega) l hl
      refine ⟨fun x hx => ⟨(this.1 x hx).1, ?_⟩, by have := this.2; simp at this ⊢; omega⟩
      rcases (this.1 x hx).2 with h | h
      · rcases List.mem_append.1 h with h | h
        · exact Or.inl h
        · simp at h; subst h; exact Or.inr (List.mem_cons_self ..)
      · exact Or.inr (List.mem_cons_of_mem _ h)
theorem lin_len : ∀ (t cur : List Nat), (lin cur t).length ≤ (if cur = [] then 0 else 1) + t.length
  | [], cur => by simp only [lin]; split <;> simp
  | c :: t, cur => by
    simp only [lin]
    split
    · have := lin_len t []
      simp at this ⊢; omega
    · have := lin_len t (cur ++ [c])
      rw [if_neg (by simp)] at this
      simp at this ⊢; omega

/-! ### What is parsed -/
theorem par_app : ∀ (ls ms : List (List Nat)) (i : Nat) (acc : List Cm), par (ls ++ ms) i acc = if (par ls i acc).2.2 = 0 then par ms (i + ls.length) (par ls i acc).1 else par ls i acc
  | [], ms, i, acc => by simp [par]
  | l :: ls, ms, i, acc => by
    simp only [List.cons_append, par]
    split
    · rw [par_app ls ms]; simp only [List.length_cons]; rw [show i + 1 + ls.length = i + (ls.length + 1) by omega]
    · cases cmd l with
      | none => simp
      | some c => simp only; rw [par_app ls ms]; simp only [List.length_cons]; rw [show i + 1 + ls.length = i + (ls.length + 1) by omega]
/-- What went before, and where one began, makes no difference but for what is told of it. -/
theorem par_shift : ∀ (ls : List (List Nat)) (i j : Nat) (acc : List Cm), (par ls i acc).2.2 = (par ls j []).2.2 ∧ ((par ls j []).2.2 = 0 → (par ls i acc).1 = acc ++ (par ls j []).1 ∧ (par ls i acc).2.1 = 0 ∧ (par ls j []).2.1 = 0) ∧ ((par ls j []).2.2 ≠ 0 → (par ls i acc).1 = [] ∧ (par ls i acc).2.1 + j = (par ls j []).2.1 + i)
  | [], i, j, acc => by simp [par]
  | l :: ls, i, j, acc => by
    simp only [par]
    split
    · have := par_shift ls (i + 1) (j + 1) acc
      refine ⟨this.1, this.2.1, fun h => ?_⟩
      have := this.2.2 h
      exact ⟨this.1, by omega⟩
    · cases cmd l with
      | none => simp; omega
      | some c =>
        simp only [List.nil_append]
        have h1 := par_shift ls (i + 1) (j + 1) (acc ++ [c])
        have h2 := par_shift ls (j + 1) (j + 1) [c]
        refine ⟨h1.1.trans h2.1.symm, fun h => ?_, fun h => ?_⟩
        · have h' := h2.1.symm.trans h
          have a := h1.2.1 h'; have b := h2.2.1 h'
          exact ⟨by rw [a.1, b.1]; simp, a.2.1, b.2.1⟩
        · have h' : (par ls (j + 1) []).2.2 ≠ 0 := fun e => h (h2.1.trans e)
          have a := h1.2.2 h'; have b := h2.2.2 h'
          exact ⟨a.1, by omega⟩
theorem par_err : ∀ (ls : List (List Nat)) (i : Nat) (acc : List Cm), ((par ls i acc).2.2 = 0 ∧ (par ls i acc).2.1 = 0) ∨ ((par ls i acc).2.2 = 3 ∧ (par ls i acc).1 = [] ∧ i < (par ls i acc).2.1 ∧ (par ls i acc).2.1 ≤ i + ls.length)
  | [], i, acc => by simp [par]
  | l :: ls, i, acc => by
    simp only [par]
    split
    · rcases par_err ls (i + 1) acc with ⟨a, b⟩ | ⟨a, b, c, d⟩
      · exact Or.inl ⟨a, b⟩
      · exact Or.inr ⟨a, b, by omega, by simp only [List.length_cons]; omega⟩
    · cases cmd l with
      | none => simp
      | some c =>
        simp only
        rcases par_err ls (i + 1) (acc ++ [c]) with ⟨a, b⟩ | ⟨a, b, c, d⟩
        · exact Or.inl ⟨a, b⟩
        · exact Or.inr ⟨a, b, by omega, by simp only [List.length_cons]; omega⟩
theorem par_over : ∀ (ls : List (List Nat)), (∀ l ∈ ls, over l = true) → ∀ i acc, par ls i acc = (acc, 0, 0)
  | [], _, i, acc => by simp [par]
  | l :: ls, h, i, acc => by
    simp only [par]
    rw [if_pos (h l (List.mem_cons_self ..)), par_over ls (fun x hx => h x (List.mem_cons_of_mem _ hx))]

/-! ### What is told: bytes, and no shorter than what it tells -/
theorem tell_small {v : Nat} (hv : valid v) : (∀ x ∈ tell v, x < 256) ∧ (enc v).length ≤ (tell v).length := by
  have hh := hex_ascii v
  have he : v < 128 → (enc v).length = 1 := fun h => by unfold enc; rw [if_pos h]; rfl
  have h4 := (enc_len v).2
  unfold tell
  repeat' split
  · exact ⟨by decide, by rw [he (by omega)]; decide⟩
  · exact ⟨by decide, by rw [he (by omega)]; decide⟩
  · exact ⟨by decide, by rw [he (by omega)]; decide⟩
  · exact ⟨by decide, by rw [he (by omega)]; decide⟩
  · exact ⟨by decide, by rw [he (by omega)]; decide⟩
  · exact ⟨fun x hx => by have := (hh.1 x hx).1; omega, by simp [hex2]; omega⟩
  · exact ⟨fun x hx => by have := (hh.2 x hx).1; omega, by simp [hex4]; omega⟩
  · exact ⟨enc_byte hv, Nat.le_refl _⟩
theorem piece_small (l : List Nat) : (∀ x ∈ (piece l).1, x < 256) ∧ (piece l).2 ≤ (piece l).1.length := by
  unfold piece
  split
  · exact ⟨fun x hx => by have := ((hex_ascii (l.headD 0)).1 x hx).1; omega, by simp [tellB]⟩
  · rename_i h0
    obtain ⟨hv, r, hr, hn⟩ := enc_rune h0
    have := tell_small hv
    exact ⟨this.1, by simp only; omega⟩
theorem body_small (l : List Nat) : (∀ x ∈ body l, x < 256) ∧ l.length ≤ (body l).length := by
  refine list_ind (P := fun l => (∀ x ∈ body l, x < 256) ∧ l.length ≤ (body l).length) (by rw [body_nil]; simp) (fun l hne ih => ?_) l
  rw [body_cons hne]
  have hp := piece_small l
  refine ⟨fun x hx => ?_, ?_⟩
  · rcases List.mem_append.1 hx with hx | hx
    · exact hp.1 x hx
    · exact ih.1 x hx
  · have := ih.2
    rw [List.length_drop] at this
    rw [List.length_append]
    omega
theorem told_small (l : List Nat) : ∀ x ∈ told l, x < 256 := by
  intro x hx
  simp [told] at hx
  rcases hx with rfl | hx | rfl
  · omega
  · exact (body_small l).1 x hx
  · omega
theorem told_long (l : List Nat) : l.length + 2 ≤ (told l).length := by
  rw [told_len]; have := (body_small l).2; omega

/-! ### Told and read back -/
theorem head_word {w r : List Nat} {c : Nat} {q : List Nat} (e : w = c :: q) (h : bl c = false) (h35 : c ≠ 35) : over (w ++ r) = false := by
  subst e
  rw [List.cons_append]
  unfold over
  rw [skp_cons_no h]
  simp [h35]
theorem ends_nil : ends [] = true := rfl
theorem two_nt {a b : Int} (ha0 : -999999999 ≤ a) (ha1 : a ≤ 999999999) (hb0 : -999999999 ≤ b) (hb1 : b ≤ 999999999) {r : List Nat} (hr : r = [] ∨ we (r.headD 0) = true) :
    two (32 :: nt a ++ (32 :: nt b ++ r)) = some (a, b, r) := by
  have h1 := wrd_bl (nt_ne a) (fun x hx => (nt_we a x hx).1) (r := 32 :: nt b ++ r) (Or.inr rfl)
  have h2 := wrd_bl (nt_ne b) (fun x hx => (nt_we b x hx).1) (r := r) hr
  unfold two
  simp only [List.cons_append] at *
  rw [h1.1, h1.2, h2.1, h2.2, num_nt ha0 ha1, num_nt hb0 hb1]
  rfl
theorem cnt_nt {k : Nat} {a : Int} (ha0 : -999999999 ≤ a) (ha1 : a ≤ 999999999) : cnt k (32 :: nt a) = some ⟨k, a, 0, []⟩ := by
  have h1 := wrd_bl (nt_ne a) (fun x hx => (nt_we a x hx).1) (r := []) (Or.inl rfl)
  rw [List.append_nil] at h1
  unfold cnt
  rw [h1.1, h1.2, num_nt ha0 ha1]
  simp [ends_nil]
theorem told_head (l : List Nat) : ∃ q, told l = 34 :: q := ⟨_, rfl⟩
theorem ends_nt (a : Int) : ends (32 :: nt a) = false := by
  obtain ⟨c, q, e⟩ := List.exists_cons_of_ne_nil (nt_ne a)
  have h := (nt_we a c (by rw [e]; exact List.mem_cons_self ..)).1
  simp only [we, Bool.or_eq_false_iff] at h
  unfold ends
  rw [skp_cons_bl rfl, e, skp_cons_no (by simp [bl, h.1])]
  rfl
theorem cmd_of {l w r : List Nat} (h : l = w ++ r) (hne : w ≠ []) (hw : ∀ x ∈ w, we x = false) (hr : r = [] ∨ we (r.headD 0) = true) : wrd l = w ∧ rst l = r := by
  subst h
  have := wrd_is hne hw hr
  exact ⟨this.1, this.2.1⟩
theorem cmd_txt {c : Cm} (h : c.Ok) : cmd (txt c) = some c := by
  obtain ⟨k, a, b, d⟩ := c
  obtain ⟨hk, a0, a1, b0, b1, hb, nb, na, nd⟩ := h
  simp only at *
  have hn := two_nt (r := []) a0 a1 b0 b1 (Or.inl rfl)
  rw [List.append_nil] at hn
  rcases hk with rfl | rfl | rfl | rfl | rfl | rfl | rfl | rfl
  · obtain rfl := nd (by decide)
    show cmd (sRead ++ (32 :: nt a ++ (32 :: nt b))) = _
    obtain ⟨e1, e2⟩ := cmd_of (w := sRead) (r := 32 :: nt a ++ (32 :: nt b)) rfl (by decide) (by decide) (Or.inr rfl)
    unfold cmd
    rw [if_pos e1, e2]
    unfold rng
    rw [hn]
    rfl
  · show cmd (sWrite ++ (32 :: nt a ++ (32 :: nt b ++ (32 :: told d)))) = _
    obtain ⟨e1, e2⟩ := cmd_of (w := sWrite) (r := 32 :: nt a ++ (32 :: nt b ++ (32 :: told d))) rfl (by decide) (by decide) (Or.inr rfl)
    unfold cmd
    rw [e1, if_neg (by decide), if_pos rfl, e2]
    unfold wri
    rw [two_nt a0 a1 b0 b1 (Or.inr rfl)]
    have e3 : skp (32 :: told d) = told d := by rw [skp_cons_bl rfl]; exact skp_cons_no rfl
    have e4 := read_told hb []
    rw [List.append_nil] at e4
    simp only [Option.bind_some]
    rw [e3, e4]
    simp [ends_nil]
  · obtain rfl := nd (by decide)
    show cmd (sTrim ++ (32 :: nt a ++ (32 :: nt b))) = _
    obtain ⟨e1, e2⟩ := cmd_of (w := sTrim) (r := 32 :: nt a ++ (32 :: nt b)) rfl (by decide) (by decide) (Or.inr rfl)
    unfold cmd
    rw [e1, if_neg (by decide), if_neg (by decide), if_pos rfl, e2]
    unfold rng
    rw [hn]
    rfl
  · obtain rfl := nd (by decide)
    obtain rfl := nb (by decide)
    show cmd (sCut ++ (32 :: nt a)) = _
    obtain ⟨e1, e2⟩ := cmd_of (w := sCut) (r := 32 :: nt a) rfl (by decide) (by decide) (Or.inr rfl)
    unfold cmd
    rw [e1, if_neg (by decide), if_neg (by decide), if_neg (by decide), if_pos rfl, e2, cnt_nt a0 a1]
  · obtain rfl := nd (by decide)
    obtain rfl := nb (by decide)
    show cmd (sFail ++ (32 :: nt a)) = _
    obtain ⟨e1, e2⟩ := cmd_of (w := sFail) (r := 32 :: nt a) rfl (by decide) (by decide) (Or.inr rfl)
    unfold cmd
    rw [e1, if_neg (by decide), if_neg (by decide), if_neg (by decide), if_neg (by decide), if_pos rfl, e2, cnt_nt a0 a1]
  · obtain rfl := nd (by decide)
    obtain rfl := nb (by decide)
    show cmd (if a = -1 then sMount else sMount ++ (32 :: nt a)) = _
    by_cases hm : a = -1
    · subst hm
      rw [if_pos rfl]
      decide
    · rw [if_neg hm]
      obtain ⟨e1, e2⟩ := cmd_of (w := sMount) (r := 32 :: nt a) rfl (by decide) (by decide) (Or.inr rfl)
      unfold cmd
      rw [e1, if_neg (by decide), if_neg (by decide), if_neg (by decide), if_neg (by decide), if_neg (by decide), if_pos rfl, e2, ends_nt]
      simp only [Bool.false_eq_true, if_false]
      exact cnt_nt a0 a1
  · obtain rfl := nd (by decide)
    obtain rfl := nb (by decide)
    obtain rfl := na (by decide)
    decide
  · obtain rfl := nd (by decide)
    obtain rfl := nb (by decide)
    obtain rfl := na (by decide)
    decide
/-- What a command is told as begins with a letter and holds no byte 10. -/
theorem txt_front (c : Cm) : (∃ h q, txt c = h :: q ∧ bl h = false ∧ h ≠ 35) ∧ ∀ x ∈ txt c, x ≠ 10 ∧ x < 256 := by
  have ha := nt_we c.a
  have hb := nt_we c.b
  have hd := (told_runes c.d).2.2
  have hd2 := told_small c.d
  unfold txt
  refine ⟨?_, ?_⟩
  · repeat' split
    all_goals exact ⟨_, _, rfl, by decide, by decide⟩
  · intro x
    repeat' split
    all_goals simp only [sRead, sWrite, sTrim, sCut, sFail, sMount, sShow, sStat, List.cons_append, List.nil_append, List.mem_cons, List.mem_append, List.not_mem_nil, or_false]
    all_goals intro hx
    · rcases hx with h | h | h | h | h | h | h | h
      all_goals first | omega | (have := ha x h; omega) | (have := hb x h; omega)
    · rcases hx with h | h | h | h | h | h | h | h | h | h | h
      all_goals first | omega | (have := ha x h; omega) | (have := hb x h; omega) | (exact ⟨hd x h, hd2 x h⟩)
    · rcases hx with h | h | h | h | h | h | h | h
      all_goals first | omega | (have := ha x h; omega) | (have := hb x h; omega)
    · rcases hx with h | h | h | h | h
      all_goals first | omega | (have := ha x h; omega)
    · rcases hx with h | h | h | h | h | h
      all_goals first | omega | (have := ha x h; omega)
    · omega
    · rcases hx with h | h | h | h | h | h | h
      all_goals first | omega | (have := ha x h; omega)
    · omega
    · omega
theorem over_txt (c : Cm) : over (txt c) = false := by
  obtain ⟨h, q, e, h1, h2⟩ := (txt_front c).1
  rw [e]
  unfold over
  rw [skp_cons_no h1]
  simp [h2]
theorem lin_prt : ∀ (L : List Cm) (t : List Nat), lin [] (prt L ++ t) = L.map txt ++ lin [] t
  | [], t => by simp [prt]
  | c :: L, t => by
    have ih := lin_prt L t
    unfold prt at *
    rw [List.flatMap_cons, List.append_assoc, List.append_assoc, List.singleton_append, lin_line (fun x hx => ((txt_front c).2 x hx).1), ih]
    simp
theorem par_txt : ∀ (L : List Cm), (∀ c ∈ L, c.Ok) → ∀ i acc, par (L.map txt) i acc = (acc ++ L, 0, 0)
  | [], _, i, acc => by simp [par]
  | c :: L, h, i, acc => by
    simp only [List.map_cons, par]
    rw [over_txt, cmd_txt (h c (List.mem_cons_self ..))]
    simp only [Bool.false_eq_true, if_false]
    rw [par_txt L (fun x hx => h x (List.mem_cons_of_mem _ hx))]
    simp
end Km
end Go.Proofs.YtgilagmgepogbaaDoor
