/-
  Texts of any bytes as mathematics: runes by their bytes, what bytes are told as, and back. Bytes are numbers below 256. No condition but the bounds that each law names.
-/
set_option linter.unusedVariables false
namespace Go.Proofs.YtgilagmgepogbaaDoor
namespace Qm

/-- A byte that goes on with a rune. -/
def isC (d : Nat) : Prop := 128 ≤ d ∧ d ≤ 191
instance (d : Nat) : Decidable (isC d) := by unfold isC; infer_instance
def v3 (c d e : Nat) : Nat := 4096 * (c - 224) + 64 * (d - 128) + (e - 128)
def v4 (c d e f : Nat) : Nat := 262144 * (c - 240) + 4096 * (d - 128) + 64 * (e - 128) + (f - 128)
def ok3 (v : Nat) : Prop := 2048 ≤ v ∧ ¬ (55296 ≤ v ∧ v < 57344)
def ok4 (v : Nat) : Prop := 65536 ≤ v ∧ v ≤ 1114111
instance (v : Nat) : Decidable (ok3 v) := by unfold ok3; infer_instance
instance (v : Nat) : Decidable (ok4 v) := by unfold ok4; infer_instance

/-- The rune that bytes begin with, and how many bytes it has; 0 bytes: there is none that is well formed. -/
def rune : List Nat → Nat × Nat
  | [] => (0, 0)
  | [c] => if c < 128 then (c, 1) else (0, 0)
  | [c, d] => if c < 128 then (c, 1) else if 194 ≤ c ∧ c < 224 ∧ isC d then (64 * (c - 192) + (d - 128), 2) else (0, 0)
  | [c, d, e] => if c < 128 then (c, 1) else if 194 ≤ c ∧ c < 224 ∧ isC d then (64 * (c - 192) + (d - 128), 2) else if 224 ≤ c ∧ c < 240 ∧ isC d ∧ isC e ∧ ok3 (v3 c d e) then (v3 c d e, 3) else (0, 0)
  | c :: d :: e :: f :: _ => if c < 128 then (c, 1) else if 194 ≤ c ∧ c < 224 ∧ isC d then (64 * (c - 192) + (d - 128), 2) else if 224 ≤ c ∧ c < 240 ∧ isC d ∧ isC e ∧ ok3 (v3 c d e) then (v3 c d e, 3)
      else if 240 ≤ c ∧ c < 245 ∧ isC d ∧ isC e ∧ isC f ∧ ok4 (v4 c d e f) then (v4 c d e f, 4) else (0, 0)

/-- A rune's bytes. -/
def enc (v : Nat) : List Nat :=
  if v < 128 then [v] else if v < 2048 then [192 + v / 64, 128 + v % 64] else if v < 65536 then [224 + v / 4096, 128 + v / 64 % 64, 128 + v % 64]
  else [240 + v / 262144, 128 + v / 4096 % 64, 128 + v / 64 % 64, 128 + v % 64]
def valid (v : Nat) : Prop := v < 55296 ∨ (57344 ≤ v ∧ v ≤ 1114111)
instance (v : Nat) : Decidable (valid v) := by unfold valid; infer_instance

theorem rune1 {c : Nat} {r : List Nat} (h : c < 128) : rune (c :: r) = (c, 1) := by
  match r with
  | [] => simp [rune, h]
  | [d] => simp [rune, h]
  | [d, e] => simp [rune, h]
  | d :: e :: f :: _ => simp [rune, h]
theorem rune2 {c d : Nat} {r : List Nat} (h : 194 ≤ c ∧ c < 224 ∧ isC d) : rune (c :: d :: r) = (64 * (c - 192) + (d - 128), 2) := by
  have h0 : ¬ c < 128 := by omega
  match r with
  | [] => simp only [rune]; rw [if_neg h0, if_pos h]
  | [e] => simp only [rune]; rw [if_neg h0, if_pos h]
  | e :: f :: _ => simp only [rune]; rw [if_neg h0, if_pos h]
theorem rune3 {c d e : Nat} {r : List Nat} (h : 224 ≤ c ∧ c < 240 ∧ isC d ∧ isC e ∧ ok3 (v3 c d e)) : rune (c :: d :: e :: r) = (v3 c d e, 3) := by
  have h0 : ¬ c < 128 := by omega
  have h1 : ¬ (194 ≤ c ∧ c < 224 ∧ isC d) := by omega
  match r with
  | [] => simp only [rune]; rw [if_neg h0, if_neg h1, if_pos h]
  | f :: _ => simp only [rune]; rw [if_neg h0, if_neg h1, if_pos h]
theorem rune4 {c d e f : Nat} {r : List Nat} (h : 240 ≤ c ∧ c < 245 ∧ isC d ∧ isC e ∧ isC f ∧ ok4 (v4 c d e f)) : rune (c :: d :: e :: f :: r) = (v4 c d e f, 4) := by
  have h0 : ¬ c < 128 := by omega
  have h1 : ¬ (194 ≤ c ∧ c < 224 ∧ isC d) := by omega
  have h2 : ¬ (224 ≤ c ∧ c < 240 ∧ isC d ∧ isC e ∧ ok3 (v3 c d e)) := by omega
  simp only [rune]; rw [if_neg h0, if_neg h1, if_neg h2, if_pos h]

/-- What a rune is: one of four forms. -/
theorem rune_cases (l : List Nat) : ((rune l).2 = 0 ∧ (rune l).1 = 0) ∨ (∃ c r, l = c :: r ∧ c < 128 ∧ rune l = (c, 1)) ∨
    (∃ c d r, l = c :: d :: r ∧ (194 ≤ c ∧ c < 224 ∧ isC d) ∧ rune l = (64 * (c - 192) + (d - 128), 2)) ∨
    (∃ c d e r, l = c :: d :: e :: r ∧ (224 ≤ c ∧ c < 240 ∧ isC d ∧ isC e ∧ ok3 (v3 c d e)) ∧ rune l = (v3 c d e, 3)) ∨
    (∃ c d e f r, l = c :: d :: e :: f :: r ∧ (240 ≤ c ∧ c < 245 ∧ isC d ∧ isC e ∧ isC f ∧ ok4 (v4 c d e f)) ∧ rune l = (v4 c d e f, 4)) := by
  match l with
  | [] => left; simp [rune]
  | [c] =>
    by_cases h : c < 128
    · exact Or.inr (Or.inl ⟨c, [], rfl, h, rune1 h⟩)
    · left; simp [rune, h]
  | [c, d] =>
    by_cases h : c < 128
    · exact Or.inr (Or.inl ⟨c, _, rfl, h, rune1 h⟩)
    · by_cases h2 : 194 ≤ c ∧ c < 224 ∧ isC d
      · exact Or.inr (Or.inr (Or.inl ⟨c, d, _, rfl, h2, rune2 h2⟩))
      · left; simp only [rune]; rw [if_neg h, if_neg h2]; exact ⟨rfl, rfl⟩
  | [c, d, e] =>
    by_cases h : c < 128
    · exact Or.inr (Or.inl ⟨c, _, rfl, h, rune1 h⟩)
    · by_cases h2 : 194 ≤ c ∧ c < 224 ∧ isC d
      · exact Or.inr (Or.inr (Or.inl ⟨c, d, _, rfl, h2, rune2 h2⟩))
      · by_cases h3 : 224 ≤ c ∧ c < 240 ∧ isC d ∧ isC e ∧ ok3 (v3 c d e)
        · exact Or.inr (Or.inr (Or.inr (Or.inl ⟨c, d, e, _, rfl, h3, rune3 h3⟩)))
        · left; simp only [rune]; rw [if_neg h, if_neg h2, if_neg h3]; exact ⟨rfl, rfl⟩
  | c :: d :: e :: f :: r =>
    by_cases h : c < 128
    · exact Or.inr (Or.inl ⟨c, _, rfl, h, rune1 h⟩)
    · by_cases h2 : 194 ≤ c ∧ c < 224 ∧ isC d
      · exact Or.inr (Or.inr (Or.inl ⟨c, d, _, rfl, h2, rune2 h2⟩))
      · by_cases h3 : 224 ≤ c ∧ c < 240 ∧ isC d ∧ isC e ∧ ok3 (v3 c d e)
        · exact Or.inr (Or.inr (Or.inr (Or.inl ⟨c, d, e, _, rfl, h3, rune3 h3⟩)))
        · by_cases h4 : 240 ≤ c ∧ c < 245 ∧ isC d ∧ isC e ∧ isC f ∧ ok4 (v4 c d e f)
          · exact Or.inr (Or.inr (Or.inr (Or.inr ⟨c, d, e, f, r, rfl, h4, rune4 h4⟩)))
          · left; simp only [rune]; rw [if_neg h, if_neg h2, if_neg h3, if_neg h4]; exact ⟨rfl, rfl⟩

/-- A rune and its bytes tell each other; what stands behind does not matter. -/
theorem rune_enc {v : Nat} (h : valid v) (r : List Nat) : rune (enc v ++ r) = (v, (enc v).length) := by
  unfold valid at h
  unfold enc
  by_cases h1 : v < 128
  · rw [if_pos h1]; exact rune1 h1
  · rw [if_neg h1]
    by_cases h2 : v < 2048
    · rw [if_pos h2]
      show rune (_ :: _ :: r) = _
      rw [rune2 (by unfold isC; omega)]
      simp; omega
    · rw [if_neg h2]
      by_cases h3 : v < 65536
      · rw [if_pos h3]
        show rune (_ :: _ :: _ :: r) = _
        have e : v3 (224 + v / 4096) (128 + v / 64 % 64) (128 + v % 64) = v := by unfold v3; omega
        rw [rune3 (by rw [e]; unfold isC ok3; omega), e]; rfl
      · rw [if_neg h3]
        show rune (_ :: _ :: _ :: _ :: r) = _
        have e : v4 (240 + v / 262144) (128 + v / 4096 % 64) (128 + v / 64 % 64) (128 + v % 64) = v := by unfold v4; omega
        rw [rune4 (by rw [e]; unfold isC ok4; omega), e]; rfl
theorem enc_rune {l : List Nat} (h : (rune l).2 ≠ 0) : valid (rune l).1 ∧ ∃ r, l = enc (rune l).1 ++ r ∧ (rune l).2 = (enc (rune l).1).length := by
  rcases rune_cases l with ⟨h0, _⟩ | ⟨c, r, rfl, hc, e⟩ | ⟨c, d, r, rfl, hc, e⟩ | ⟨c, d, e', r, rfl, hc, e⟩ | ⟨c, d, e', f, r, rfl, hc, e⟩
  · exact absurd h0 h
  · rw [e]
    refine ⟨by unfold valid; show c < 55296 ∨ _; omega, r, ?_⟩
    have : enc c = [c] := by unfold enc; rw [if_pos hc]
    show c :: r = enc c ++ r ∧ 1 = (enc c).length
    rw [this]; exact ⟨rfl, rfl⟩
  · rw [e]
    unfold isC at hc
    refine ⟨by unfold valid; show 64 * (c - 192) + (d - 128) < 55296 ∨ _; omega, r, ?_⟩
    have : enc (64 * (c - 192) + (d - 128)) = [c, d] := by
      unfold enc
      rw [if_neg (by omega), if_pos (by omega)]
      simp only [List.cons.injEq, and_true]
      omega
    show c :: d :: r = enc (64 * (c - 192) + (d - 128)) ++ r ∧ 2 = (enc (64 * (c - 192) + (d - 128))).length
    rw [this]; exact ⟨rfl, rfl⟩
  · rw [e]
    obtain ⟨h1, h2, h3, h4, h5⟩ := hc
    unfold isC at h3 h4
    have hb : v3 c d e' < 65536 := by unfold v3; omega
    unfold ok3 at h5
    refine ⟨by unfold valid; show v3 c d e' < 55296 ∨ _; omega, r, ?_⟩
    have : enc (v3 c d e') = [c, d, e'] := by
      unfold enc
      rw [if_neg (by omega), if_neg (by omega), if_pos hb]
      unfold v3
      simp only [List.cons.injEq, and_true]
      omega
    show c :: d :: e' :: r = enc (v3 c d e') ++ r ∧ 3 = (enc (v3 c d e')).length
    rw [this]; exact ⟨rfl, rfl⟩
  · rw [e]
    obtain ⟨h1, h2, h3, h4, h5, h6⟩ := hc
    unfold isC at h3 h4 h5
    unfold ok4 at h6
    refine ⟨by unfold valid; show v4 c d e' f < 55296 ∨ _; omega, r, ?_⟩
    have : enc (v4 c d e' f) = [c, d, e', f] := by
      unfold enc
      rw [if_neg (by omega), if_neg (by omega), if_neg (by omega)]
      unfold v4
      simp only [List.cons.injEq, and_true]
      omega
    show c :: d :: e' :: f :: r = enc (v4 c d e' f) ++ r ∧ 4 = (enc (v4 c d e' f)).length
    rw [this]; exact ⟨rfl, rfl⟩
theorem enc_len (v : Nat) : 1 ≤ (enc v).length ∧ (enc v).length ≤ 4 := by
  unfold enc
  by_cases h1 : v < 128
  · simp [h1]
  · by_cases h2 : v < 2048
    · simp [h1, h2]
    · by_cases h3 : v < 65536
      · simp [h1, h2, h3]
      · simp [h1, h2, h3]
theorem enc_byte {v : Nat} (h : valid v) : ∀ x ∈ enc v, x < 256 := by
  unfold valid at h
  unfold enc
  intro x hx
  by_cases h1 : v < 128
  · simp [h1] at hx; omega
  · by_cases h2 : v < 2048
    · simp [h1, h2] at hx; omega
    · by_cases h3 : v < 65536
      · simp [h1, h2, h3] at hx; omega
      · simp [h1, h2, h3] at hx; omega

/-- A rune that stands at the beginning of a beginning stands there too. -/
theorem rune_front {l r : List Nat} (h : (rune l).2 ≠ 0) : rune (l ++ r) = rune l := by
  obtain ⟨hv, q, e, hl⟩ := enc_rune h
  have h1 := rune_enc hv (q ++ r)
  rw [← List.append_assoc, ← e] at h1
  rw [h1, ← hl]
theorem rune_take {l : List Nat} {k : Nat} (h : (rune l).2 ≠ 0) (hk : (rune l).2 ≤ k) : rune (l.take k) = rune l := by
  obtain ⟨hv, q, e, hl⟩ := enc_rune h
  have h1 : l.take k = enc (rune l).1 ++ q.take (k - (enc (rune l).1).length) := by
    conv => lhs; rw [e]
    rw [List.take_append, List.take_of_length_le (by omega)]
  rw [h1, rune_enc hv, ← hl]
theorem rune_none_take {l : List Nat} {k : Nat} (h : (rune l).2 = 0) : (rune (l.take k)).2 = 0 := by
  refine Classical.byContradiction fun h1 => ?_
  have := rune_front (r := l.drop k) h1
  rw [List.take_append_drop] at this
  rw [this] at h
  exact h1 h
theorem rune_len {l : List Nat} : (rune l).2 ≤ l.length := by
  by_cases h : (rune l).2 = 0
  · omega
  · obtain ⟨_, q, e, hl⟩ := enc_rune h
    have := congrArg List.length e
    rw [List.length_append] at this
    omega
theorem rune_four {l : List Nat} : (rune l).2 ≤ 4 := by
  by_cases h : (rune l).2 = 0
  · omega
  · obtain ⟨_, q, e, hl⟩ := enc_rune h
    have := enc_len (rune l).1
    omega

/-- Digits. -/
def hexd (d : Nat) : Nat := if d < 10 then 48 + d else 87 + d
def hex2 (v : Nat) : List Nat := [hexd (v / 16 % 16), hexd (v % 16)]
def hex4 (v : Nat) : List Nat := [hexd (v / 4096 % 16), hexd (v / 256 % 16), hexd (v / 16 % 16), hexd (v % 16)]
def digit (c : Nat) : Option Nat := if 48 ≤ c ∧ c ≤ 57 then some (c - 48) else if 97 ≤ c ∧ c ≤ 102 then some (c - 87) else none
theorem digit_hexd {d : Nat} (h : d < 16) : digit (hexd d) = some d := by
  unfold hexd digit
  by_cases h1 : d < 10
  · rw [if_pos h1, if_pos (by omega)]; congr 1; omega
  · rw [if_neg h1, if_neg (by omega), if_pos (by omega)]; congr 1; omega
theorem hexd_bd {d : Nat} (h : d < 16) : 48 ≤ hexd d ∧ hexd d ≤ 102 ∧ hexd d ≠ 92 := by
  unfold hexd
  split <;> omega
def dig2 : List Nat → Option Nat
  | a :: b :: _ => (digit a).bind fun x => (digit b).bind fun y => some (16 * x + y)
  | _ => none
def dig4 : List Nat → Option Nat
  | a :: b :: c :: d :: _ => (digit a).bind fun x => (digit b).bind fun y => (digit c).bind fun z => (digit d).bind fun t => some (4096 * x + 256 * y + 16 * z + t)
  | _ => none
theorem dig2_hex {v : Nat} (h : v < 256) (r : List Nat) : dig2 (hex2 v ++ r) = some v := by
  show dig2 (_ :: _ :: r) = _
  simp only [dig2]
  rw [digit_hexd (by omega), digit_hexd (by omega)]
  simp only [Option.bind_some, Option.some.injEq]
  omega
theorem dig4_hex {v : Nat} (h : v < 65536) (r : List Nat) : dig4 (hex4 v ++ r) = some v := by
  show dig4 (_ :: _ :: _ :: _ :: r) = _
  simp only [dig4]
  rw [digit_hexd (by omega), digit_hexd (by omega), digit_hexd (by omega), digit_hexd (by omega)]
  simp only [Option.bind_some, Option.some.injEq]
  omega

/-- What a rune is told as. -/
def isU (v : Nat) : Prop := (128 ≤ v ∧ v < 160) ∨ v = 8232 ∨ v = 8233 ∨ v = 65279
instance (v : Nat) : Decidable (isU v) := by unfold isU; infer_instance
def tell (v : Nat) : List Nat :=
  if v = 34 then [92, 34] else if v = 92 then [92, 92] else if v = 10 then [92, 110] else if v = 9 then [92, 116] else if v = 0 then [92, 48]
  else if v < 32 ∨ v = 127 then [92, 120] ++ hex2 v else if isU v then [92, 117] ++ hex4 v else enc v
def tellB (b : Nat) : List Nat := [92, 120] ++ hex2 b
/-- What the beginning of bytes is told as, and how many bytes it is. -/
def piece (l : List Nat) : List Nat × Nat := if (rune l).2 = 0 then (tellB (l.headD 0), 1) else (tell (rune l).1, (rune l).2)
theorem piece_pos {l : List Nat} (h : l ≠ []) : 1 ≤ (piece l).2 ∧ (piece l).2 ≤ l.length := by
  unfold piece
  have hl : 1 ≤ l.length := List.length_pos_iff.2 h
  split
  · exact ⟨Nat.le_refl _, hl⟩
  · rename_i h1
    exact ⟨by show 1 ≤ (rune l).2; omega, rune_len⟩

/-- The bytes that the beginning of a text tells, and how many bytes tell it; 0: none. -/
def one : List Nat → List Nat × Nat
  | [] => ([], 0)
  | c :: r => if c ≠ 92 then ((c :: r).take (rune (c :: r)).2, (rune (c :: r)).2) else
    match r with
    | [] => ([], 0)
    | k :: q => if k = 34 ∨ k = 92 then ([k], 2) else if k = 110 then ([10], 2) else if k = 116 then ([9], 2) else if k = 48 then ([0], 2)
      else if k = 120 then (match dig2 q with | some v => ([v], 4) | none => ([], 0)) else if k = 117 then (match dig4 q with | some v => (enc v, 6) | none => ([], 0)) else ([], 0)

theorem enc_head {v : Nat} (h : valid v) (h1 : v ≠ 92) (h2 : v ≠ 34) : ∃ c q, enc v = c :: q ∧ c ≠ 92 ∧ c ≠ 34 := by
  unfold valid at h
  unfold enc
  by_cases e1 : v < 128
  · exact ⟨v, [], by rw [if_pos e1], h1, h2⟩
  · by_cases e2 : v < 2048
    · exact ⟨_, _, by rw [if_neg e1, if_pos e2], by omega, by omega⟩
    · by_cases e3 : v < 65536
      · exact ⟨_, _, by rw [if_neg e1, if_neg e2, if_pos e3], by omega, by omega⟩
      · exact ⟨_, _, by rw [if_neg e1, if_neg e2, if_neg e3], by omega, by omega⟩

theorem one_tell {v : Nat} (h : valid v) (r : List Nat) : one (tell v ++ r) = (enc v, (tell v).length) ∧ ∃ c q, tell v = c :: q ∧ c ≠ 34 := by
  unfold tell
  by_cases h1 : v = 34
  · subst h1; exact ⟨rfl, _, _, rfl, by decide⟩
  rw [if_neg h1]
  by_cases h2 : v = 92
  · subst h2; exact ⟨rfl, _, _, rfl, by decide⟩
  rw [if_neg h2]
  by_cases h3 : v = 10
  · subst h3; exact ⟨rfl, _, _, rfl, by decide⟩
  rw [if_neg h3]
  by_cases h4 : v = 9
  · subst h4; exact ⟨rfl, _, _, rfl, by decide⟩
  rw [if_neg h4]
  by_cases h5 : v = 0
  · subst h5; exact ⟨rfl, _, _, rfl, by decide⟩
  rw [if_neg h5]
  by_cases h6 : v < 32 ∨ v = 127
  · rw [if_pos h6]
    refine ⟨?_, _, _, rfl, by decide⟩
    have e := dig2_hex (v := v) (by omega) r
    have e2 : enc v = [v] := by unfold enc; rw [if_pos (by omega)]
    show one (92 :: 120 :: (hex2 v ++ r)) = _
    simp only [one]
    rw [if_neg (by decide), if_neg (by decide), if_neg (by decide), if_neg (by decide), if_neg (by decide), if_pos trivial, e, e2]; rfl
  rw [if_neg h6]
  by_cases h7 : isU v
  · rw [if_pos h7]
    refine ⟨?_, _, _, rfl, by decide⟩
    unfold isU at h7
    have e := dig4_hex (v := v) (by omega) r
    show one (92 :: 117 :: (hex4 v ++ r)) = _
    simp only [one]
    rw [if_neg (by decide), if_neg (by decide), if_neg (by decide), if_neg (by decide), if_neg (by decide), if_neg (by decide), if_pos trivial, e]; rfl
  rw [if_neg h7]
  obtain ⟨c, q, ec, hc1, hc2⟩ := enc_head h h2 h1
  have er := rune_enc h r
  refine ⟨?_, c, q, ec, hc2⟩
  rw [ec] at er ⊢
  show one (c :: (q ++ r)) = _
  simp only [one]
  rw [if_pos hc1]
  rw [List.cons_append] at er
  rw [er]
  simp

theorem one_tellB {b : Nat} (h : b < 256) (r : List Nat) : one (tellB b ++ r) = ([b], (tellB b).length) := by
  have e := dig2_hex h r
  show one (92 :: 120 :: (hex2 b ++ r)) = _
  simp only [one]
  rw [if_neg (by decide), if_neg (by decide), if_neg (by decide), if_neg (by decide), if_neg (by decide), if_pos trivial, e]; rfl

/-- What a piece tells is what it was made of. -/
theorem one_piece {l : List Nat} (h : l ≠ []) (hb : ∀ x ∈ l, x < 256) (r : List Nat) : one ((piece l).1 ++ r) = (l.take (piece l).2, (piece l).1.length) ∧ ∃ c q, (piece l).1 = c :: q ∧ c ≠ 34 := by
  unfold piece
  by_cases h0 : (rune l).2 = 0
  · rw [if_pos h0]
    match l, h with
    | b :: q, _ =>
      refine ⟨?_, _, _, rfl, by decide⟩
      show one (tellB b ++ r) = ((b :: q).take 1, (tellB b).length)
      rw [one_tellB (hb b (by simp)) r]; rfl
  · rw [if_neg h0]
    obtain ⟨hv, q, e, hl⟩ := enc_rune h0
    obtain ⟨h1, h2⟩ := one_tell hv r
    refine ⟨?_, h2⟩
    show one (tell (rune l).1 ++ r) = (l.take (rune l).2, (tell (rune l).1).length)
    rw [h1]
    have : l.take (rune l).2 = enc (rune l).1 := by
      have e1 := congrArg (List.take (rune l).2) e
      rw [e1, hl, List.take_left]
    rw [this]

/-- What bytes are told as, without the marks about it. -/
def body (l : List Nat) : List Nat := if h : l = [] then [] else (piece l).1 ++ body (l.drop (piece l).2)
termination_by l.length
decreasing_by
  have := piece_pos h
  simp; omega
theorem body_nil : body [] = [] := by rw [body, dif_pos rfl]
theorem body_cons {l : List Nat} (h : l ≠ []) : body l = (piece l).1 ++ body (l.drop (piece l).2) := by rw [body, dif_neg h]
def told (l : List Nat) : List Nat := 34 :: (body l ++ [34])

theorem list_ind {P : List Nat → Prop} (nil : P []) (step : ∀ l, l ≠ [] → P (l.drop (piece l).2) → P l) (l : List Nat) : P l := by
  by_cases h : l = []
  · subst h; exact nil
  · exact step l h (list_ind nil step (l.drop (piece l).2))
termination_by l.length
decreasing_by
  have := piece_pos h
  simp; omega

/-- Reading as the document's own does: at place k of a text, s read so far; what is read ahead of the mark, and where the mark is. -/
def scan (t : List Nat) (s : List Nat) (k : Nat) : Nat → Option (List Nat × Nat)
  | 0 => none
  | fuel + 1 => match t with
    | [] => none
    | c :: r => if c = 34 then some (s, k) else if (one (c :: r)).2 = 0 then none else scan ((c :: r).drop (one (c :: r)).2) (s ++ (one (c :: r)).1) (k + (one (c :: r)).2) fuel

theorem scan_body (l : List Nat) : (∀ x ∈ l, x < 256) → ∀ (s : List Nat) (k : Nat) (r : List Nat) (fuel : Nat), (body l).length < fuel → scan (body l ++ 34 :: r) s k fuel = some (s ++ l, k + (body l).length) := by
  refine list_ind (P := fun l => (∀ x ∈ l, x < 256) → ∀ (s : List Nat) (k : Nat) (r : List Nat) (fuel : Nat), (body l).length < fuel → scan (body l ++ 34 :: r) s k fuel = some (s ++ l, k + (body l).length)) ?_ ?_ l
  · intro _ s k r fuel hf
    obtain ⟨f, rfl⟩ : ∃ f, fuel = f + 1 := ⟨fuel - 1, by omega⟩
    rw [body_nil]
    simp [scan]
  · intro l hne ih hb s k r fuel hf
    obtain ⟨f, rfl⟩ : ∃ f, fuel = f + 1 := ⟨fuel - 1, by omega⟩
    rw [body_cons hne] at hf ⊢
    obtain ⟨h1, c, q, hcq, hc⟩ := one_piece hne hb (body (l.drop (piece l).2) ++ 34 :: r)
    rw [List.append_assoc]
    have hform : (piece l).1 ++ (body (l.drop (piece l).2) ++ 34 :: r) = c :: (q ++ (body (l.drop (piece l).2) ++ 34 :: r)) := by rw [hcq]; rfl
    rw [List.length_append] at hf
    have hlen : 1 ≤ (piece l).1.length := by rw [hcq]; simp
    have ih' := ih (fun x hx => hb x (List.mem_of_mem_drop hx)) (s ++ l.take (piece l).2) (k + (piece l).1.length) r f (by omega)
    rw [hform] at h1 ⊢
    simp only [scan]
    rw [if_neg hc, h1, if_neg (by show ¬ (piece l).1.length = 0; omega)]
    show scan (List.drop (piece l).1.length (c :: (q ++ (body (l.drop (piece l).2) ++ 34 :: r)))) (s ++ l.take (piece l).2) (k + (piece l).1.length) f = _
    rw [← hform, List.drop_left, ih', List.append_assoc, List.take_append_drop, List.length_append, Nat.add_assoc]

/-- Read as the document's own does: what the beginning of a text tells, and how many bytes; none: it does not begin so. -/
def read (t : List Nat) : Option (List Nat × Nat) :=
  match t with
  | [] => none
  | c :: r => if c = 34 then (match scan r [] 1 (r.length + 1) with | some (s, k) => if told s = t.take (k + 1) then some (s, k + 1) else none | none => none) else none
theorem told_len (l : List Nat) : (told l).length = (body l).length + 2 := by simp [told]
theorem read_told {l : List Nat} (h : ∀ x ∈ l, x < 256) (r : List Nat) : read (told l ++ r) = some (l, (told l).length) := by
  have e : told l ++ r = 34 :: (body l ++ 34 :: r) := by simp [told]
  have hs := scan_body l h [] 1 r ((body l ++ 34 :: r).length + 1) (by simp; omega)
  rw [List.nil_append] at hs
  have ht : (34 :: (body l ++ 34 :: r)).take (1 + (body l).length + 1) = told l := by
    rw [← e, show 1 + (body l).length + 1 = (told l).length by rw [told_len]; omega, List.take_left]
  rw [e]
  simp only [read]
  rw [if_pos trivial, hs]
  simp only
  rw [ht, if_pos rfl, told_len]
  congr 2
  omega
theorem read_some {t s : List Nat} {n : Nat} (h : read t = some (s, n)) : n = (told s).length ∧ t = told s ++ t.drop n := by
  match t with
  | [] => simp [read] at h
  | c :: r =>
    simp only [read] at h
    by_cases hc : c = 34
    · rw [if_pos hc] at h
      cases hsc : scan r [] 1 (r.length + 1) with
      | none => rw [hsc] at h; cases h
      | some q =>
        obtain ⟨s', k⟩ := q
        rw [hsc] at h
        simp only at h
        by_cases ht : told s' = (c :: r).take (k + 1)
        · rw [if_pos ht] at h
          simp only [Option.some.injEq, Prod.mk.injEq] at h
          obtain ⟨rfl, rfl⟩ := h
          have h2 : c :: r = told s' ++ (c :: r).drop (k + 1) := by rw [ht, List.take_append_drop]
          refine ⟨?_, h2⟩
          have hl := congrArg List.length ht
          rw [List.length_take] at hl
          by_cases hk : k + 1 ≤ (c :: r).length
          · omega
          · exfalso
            -- the whole text would be told, and the mark would stand past its end
            have hk' : ∀ (t s : List Nat) (k fuel : Nat) (s' : List Nat) (k' : Nat), scan t s k fuel = some (s', k') → k' < k + t.length := by
              intro t s k fuel
              induction fuel generalizing t s k with
              | zero => intro s' k' h; simp [scan] at h
              | succ f ih =>
                intro s' k' h
                match t with
                | [] => simp [scan] at h
                | c :: r =>
                  simp only [scan] at h
                  by_cases h34 : c = 34
                  · rw [if_pos h34] at h
                    simp only [Option.some.injEq, Prod.mk.injEq] at h
                    simp; omega
                  · rw [if_neg h34] at h
                    by_cases h0 : (one (c :: r)).2 = 0
                    · rw [if_pos h0] at h; cases h
                    · rw [if_neg h0] at h
                      have := ih _ _ _ _ _ h
                      rw [List.length_drop] at this
                      by_cases hle : (one (c :: r)).2 ≤ (c :: r).length
                      · omega
                      · exfalso
                        have hz : List.drop (one (c :: r)).2 (c :: r) = [] := List.drop_eq_nil_of_le (by omega)
                        rw [hz] at h
                        cases f with
                        | zero => simp [scan] at h
                        | succ f => simp [scan] at h
            have := hk' _ _ _ _ _ _ hsc
            simp at hk
            omega
        · rw [if_neg ht] at h; cases h
    · rw [if_neg hc] at h; cases h
/-- No two texts are told by beginnings of one. -/
theorem told_apart {a b r q : List Nat} (ha : ∀ x ∈ a, x < 256) (hb : ∀ x ∈ b, x < 256) (h : told a ++ r = told b ++ q) : a = b := by
  have h1 := read_told ha r
  rw [h, read_told hb q] at h1
  simp only [Option.some.injEq, Prod.mk.injEq] at h1
  exact h1.1.symm

/-- How many runes, and bytes that are none. -/
def runes (l : List Nat) : Nat × Nat := if h : l = [] then (0, 0) else if (rune l).2 = 0 then ((runes (l.drop (piece l).2)).1, (runes (l.drop (piece l).2)).2 + 1) else ((runes (l.drop (piece l).2)).1 + 1, (runes (l.drop (piece l).2)).2)
termination_by l.length
decreasing_by
  all_goals
    have := piece_pos h
    simp; omega
theorem runes_nil : runes [] = (0, 0) := by rw [runes, dif_pos rfl]
theorem runes_bad {l : List Nat} (h : l ≠ []) (h0 : (rune l).2 = 0) : runes l = ((runes (l.drop 1)).1, (runes (l.drop 1)).2 + 1) := by
  rw [runes, dif_neg h, if_pos h0]
  have : (piece l).2 = 1 := by unfold piece; rw [if_pos h0]
  rw [this]
theorem runes_good {l : List Nat} (h0 : (rune l).2 ≠ 0) : runes l = ((runes (l.drop (rune l).2)).1 + 1, (runes (l.drop (rune l).2)).2) := by
  have h : l ≠ [] := fun e => by subst e; exact h0 rfl
  rw [runes, dif_neg h, if_neg h0]
  have : (piece l).2 = (rune l).2 := by unfold piece; rw [if_neg h0]
  rw [this]
theorem runes_enc {v : Nat} (h : valid v) (r : List Nat) : runes (enc v ++ r) = ((runes r).1 + 1, (runes r).2) := by
  have e := rune_enc h r
  have hl := enc_len v
  rw [runes_good (by rw [e]; show (enc v).length ≠ 0; omega), e]
  simp
theorem runes_ascii {c : Nat} (h : c < 128) (r : List Nat) : runes (c :: r) = ((runes r).1 + 1, (runes r).2) := by
  have := runes_enc (v := c) (by unfold valid; omega) r
  rw [show enc c = [c] by unfold enc; rw [if_pos h]] at this
  exact this
theorem runes_asciis : ∀ (l : List Nat), (∀ x ∈ l, x < 128) → ∀ r, runes (l ++ r) = ((runes r).1 + l.length, (runes r).2)
  | [], _, r => by simp
  | c :: l, h, r => by
    have := runes_asciis l (fun x hx => h x (by simp [hx])) r
    rw [List.cons_append, runes_ascii (h c (by simp)), this]
    simp; omega
theorem hex_ascii (v : Nat) : (∀ x ∈ [92, 120] ++ hex2 v, x < 128 ∧ x ≠ 10) ∧ (∀ x ∈ [92, 117] ++ hex4 v, x < 128 ∧ x ≠ 10) := by
  have hd : ∀ d : Nat, hexd (d % 16) < 128 ∧ hexd (d % 16) ≠ 10 := fun d => by have := hexd_bd (d := d % 16) (by omega); omega
  constructor <;> (intro x hx; simp [hex2, hex4] at hx)
  · rcases hx with rfl | rfl | rfl | rfl
    · decide
    · decide
    · exact hd _
    · exact hd _
  · rcases hx with rfl | rfl | rfl | rfl | rfl | rfl
    · decide
    · decide
    · exact hd _
    · exact hd _
    · exact hd _
    · exact hd _
theorem enc_no10 {v : Nat} (h : v ≠ 10) : ∀ x ∈ enc v, x ≠ 10 := by
  intro x hx
  unfold enc at hx
  by_cases h1 : v < 128
  · simp [h1] at hx; omega
  · by_cases h2 : v < 2048
    · simp [h1, h2] at hx; omega
    · by_cases h3 : v < 65536
      · simp [h1, h2, h3] at hx; omega
      · simp [h1, h2, h3] at hx; omega
theorem tell_runes {v : Nat} (h : valid v) : (∃ m, 1 ≤ m ∧ ∀ r, runes (tell v ++ r) = ((runes r).1 + m, (runes r).2)) ∧ ∀ x ∈ tell v, x ≠ 10 := by
  have two : ∀ a b : Nat, a < 128 → b < 128 → ∃ m, 1 ≤ m ∧ ∀ r, runes ([a, b] ++ r) = ((runes r).1 + m, (runes r).2) := fun a b ha hb => ⟨2, by omega, fun r => runes_asciis [a, b] (by simp; omega) r⟩
  unfold tell
  by_cases h1 : v = 34
  · rw [if_pos h1]; exact ⟨two _ _ (by decide) (by decide), by decide⟩
  rw [if_neg h1]
  by_cases h2 : v = 92
  · rw [if_pos h2]; exact ⟨two _ _ (by decide) (by decide), by decide⟩
  rw [if_neg h2]
  by_cases h3 : v = 10
  · rw [if_pos h3]; exact ⟨two _ _ (by decide) (by decide), by decide⟩
  rw [if_neg h3]
  by_cases h4 : v = 9
  · rw [if_pos h4]; exact ⟨two _ _ (by decide) (by decide), by decide⟩
  rw [if_neg h4]
  by_cases h5 : v = 0
  · rw [if_pos h5]; exact ⟨two _ _ (by decide) (by decide), by decide⟩
  rw [if_neg h5]
  by_cases h6 : v < 32 ∨ v = 127
  · rw [if_pos h6]
    exact ⟨⟨_, by simp [hex2], fun r => runes_asciis _ (fun x hx => ((hex_ascii v).1 x hx).1) r⟩, fun x hx => ((hex_ascii v).1 x hx).2⟩
  rw [if_neg h6]
  by_cases h7 : isU v
  · rw [if_pos h7]
    exact ⟨⟨_, by simp [hex4], fun r => runes_asciis _ (fun x hx => ((hex_ascii v).2 x hx).1) r⟩, fun x hx => ((hex_ascii v).2 x hx).2⟩
  rw [if_neg h7]
  exact ⟨⟨1, Nat.le_refl _, fun r => runes_enc h r⟩, enc_no10 h3⟩
theorem piece_runes (l : List Nat) : (∃ m, 1 ≤ m ∧ ∀ r, runes ((piece l).1 ++ r) = ((runes r).1 + m, (runes r).2)) ∧ ∀ x ∈ (piece l).1, x ≠ 10 := by
  unfold piece
  by_cases h0 : (rune l).2 = 0
  · rw [if_pos h0]
    exact ⟨⟨_, by simp [hex2], fun r => runes_asciis _ (fun x hx => ((hex_ascii _).1 x hx).1) r⟩, fun x hx => ((hex_ascii _).1 x hx).2⟩
  · rw [if_neg h0]
    exact tell_runes (enc_rune h0).1
theorem body_runes (l : List Nat) : (∃ m, (runes l).1 + (runes l).2 ≤ m ∧ ∀ r, runes (body l ++ r) = ((runes r).1 + m, (runes r).2)) ∧ ∀ x ∈ body l, x ≠ 10 := by
  refine list_ind (P := fun l => (∃ m, (runes l).1 + (runes l).2 ≤ m ∧ ∀ r, runes (body l ++ r) = ((runes r).1 + m, (runes r).2)) ∧ ∀ x ∈ body l, x ≠ 10) ?_ ?_ l
  · rw [runes_nil, body_nil]
    exact ⟨⟨0, by simp, fun r => by simp⟩, by simp⟩
  · intro l hne ⟨⟨m, hm, hr⟩, h10⟩
    obtain ⟨⟨k, hk, hp⟩, p10⟩ := piece_runes l
    rw [body_cons hne]
    refine ⟨⟨m + k, ?_, fun r => ?_⟩, fun x hx => ?_⟩
    · rw [runes, dif_neg hne]
      split <;> simp <;> omega
    · rw [List.append_assoc, hp, hr]; simp; omega
    · rcases List.mem_append.1 hx with h | h
      · exact p10 x h
      · exact h10 x h
/-- What is told is well formed, has no byte 10, and as many runes as letters and two more, or more. -/
theorem told_runes (l : List Nat) : (runes (told l)).2 = 0 ∧ (runes l).1 + (runes l).2 + 2 ≤ (runes (told l)).1 ∧ ∀ x ∈ told l, x ≠ 10 := by
  obtain ⟨⟨m, hm, hr⟩, h10⟩ := body_runes l
  have e : runes (told l) = (m + 2, 0) := by
    unfold told
    rw [runes_ascii (by decide), hr, runes_ascii (by decide), runes_nil]
    simp; omega
  rw [e]
  refine ⟨rfl, by show _ ≤ m + 2; omega, fun x hx => ?_⟩
  simp only [told, List.mem_cons, List.mem_append, List.not_mem_nil, or_false] at hx
  rcases hx with rfl | hx | rfl
  · decide
  · exact h10 x hx
  · decide

/-- How long a beginning of at most m bytes is that does not end within a rune. -/
def cutL (l : List Nat) (m : Nat) : Nat := if h : l = [] then 0 else if m < (piece l).2 then 0 else (piece l).2 + cutL (l.drop (piece l).2) (m - (piece l).2)
termination_by l.length
decreasing_by
  have := piece_pos h
  simp; omega
theorem cutL_nil (m : Nat) : cutL [] m = 0 := by rw [cutL, dif_pos rfl]
theorem cutL_short {l : List Nat} {m : Nat} (h : m < (piece l).2) : cutL l m = 0 := by
  by_cases e : l = []
  · subst e; exact cutL_nil m
  · rw [cutL, dif_neg e, if_pos h]
theorem cutL_step {l : List Nat} {m : Nat} (e : l ≠ []) (h : ¬ m < (piece l).2) : cutL l m = (piece l).2 + cutL (l.drop (piece l).2) (m - (piece l).2) := by rw [cutL, dif_neg e, if_neg h]
theorem piece_four (l : List Nat) : (piece l).2 ≤ 4 := by
  unfold piece
  split
  · show 1 ≤ 4; omega
  · exact rune_four
theorem cutL_bd (l : List Nat) : ∀ m, cutL l m ≤ m ∧ cutL l m ≤ l.length ∧ (l.length ≤ m → cutL l m = l.length) ∧ (m < l.length → m ≤ cutL l m + 3) := by
  refine list_ind (P := fun l => ∀ m, cutL l m ≤ m ∧ cutL l m ≤ l.length ∧ (l.length ≤ m → cutL l m = l.length) ∧ (m < l.length → m ≤ cutL l m + 3)) ?_ ?_ l
  · intro m; rw [cutL_nil]; simp
  · intro l hne ih m
    have hp := piece_pos hne
    have h4 := piece_four l
    by_cases h : m < (piece l).2
    · rw [cutL_short h]
      exact ⟨by omega, by omega, fun e => by omega, fun e => by omega⟩
    · rw [cutL_step hne h]
      obtain ⟨i1, i2, i3, i4⟩ := ih (m - (piece l).2)
      rw [List.length_drop] at i2 i3 i4
      exact ⟨by omega, by omega, fun e => by have := i3 (by omega); omega, fun e => by have := i4 (by omega); omega⟩
/-- At a place that is no rune's inside, the parts' first pieces are the whole's. -/
theorem piece_take {l : List Nat} {k : Nat} (hk : (piece l).2 ≤ k) : (piece (l.take k)).2 = (piece l).2 ∧ ((rune (l.take k)).2 = 0 ↔ (rune l).2 = 0) := by
  by_cases h0 : (rune l).2 = 0
  · have h1 := rune_none_take (k := k) h0
    unfold piece
    rw [if_pos h0, if_pos h1]
    exact ⟨rfl, ⟨fun _ => h0, fun _ => h1⟩⟩
  · have hp : (piece l).2 = (rune l).2 := by unfold piece; rw [if_neg h0]
    have h1 := rune_take (k := k) h0 (by omega)
    have h2 : (piece (l.take k)).2 = (rune (l.take k)).2 := by unfold piece; rw [if_neg (by rw [h1]; exact h0)]
    rw [h2, hp, h1]
    exact ⟨rfl, Iff.rfl⟩
theorem cutL_again (l : List Nat) : ∀ m, cutL (l.take (cutL l m)) m = cutL l m := by
  refine list_ind (P := fun l => ∀ m, cutL (l.take (cutL l m)) m = cutL l m) ?_ ?_ l
  · intro m; rw [cutL_nil]; exact cutL_nil m
  · intro l hne ih m
    have hp := piece_pos hne
    by_cases h : m < (piece l).2
    · rw [cutL_short h]; exact cutL_nil m
    · rw [cutL_step hne h]
      have h1 := (piece_take (l := l) (k := (piece l).2 + cutL (l.drop (piece l).2) (m - (piece l).2)) (by omega)).1
      have hne2 : l.take ((piece l).2 + cutL (l.drop (piece l).2) (m - (piece l).2)) ≠ [] := fun e => by
        have h9 := congrArg List.length e
        rw [List.length_take, List.length_nil] at h9
        omega
      rw [cutL_step hne2 (by rw [h1]; exact h), h1, List.drop_take, Nat.add_sub_cancel_left, ih]
/-- The two parts' runes together are the whole's. -/
theorem cutL_runes (l : List Nat) : ∀ m, (runes (l.take (cutL l m))).1 + (runes (l.drop (cutL l m))).1 = (runes l).1 ∧ (runes (l.take (cutL l m))).2 + (runes (l.drop (cutL l m))).2 = (runes l).2 := by
  refine list_ind (P := fun l => ∀ m, (runes (l.take (cutL l m))).1 + (runes (l.drop (cutL l m))).1 = (runes l).1 ∧ (runes (l.take (cutL l m))).2 + (runes (l.drop (cutL l m))).2 = (runes l).2) ?_ ?_ l
  · intro m; rw [cutL_nil]; simp [runes_nil]
  · intro l hne ih m
    have hp := piece_pos hne
    by_cases h : m < (piece l).2
    · rw [cutL_short h]; simp [runes_nil]
    · obtain ⟨i1, i2⟩ := ih (m - (piece l).2)
      rw [cutL_step hne h]
      obtain ⟨h1, h2⟩ := piece_take (l := l) (k := (piece l).2 + cutL (l.drop (piece l).2) (m - (piece l).2)) (by omega)
      have hne2 : l.take ((piece l).2 + cutL (l.drop (piece l).2) (m - (piece l).2)) ≠ [] := fun e => by
        have h9 := congrArg List.length e
        rw [List.length_take, List.length_nil] at h9
        omega
      have e1 : runes (l.take ((piece l).2 + cutL (l.drop (piece l).2) (m - (piece l).2))) = if (rune l).2 = 0 then ((runes ((l.drop (piece l).2).take (cutL (l.drop (piece l).2) (m - (piece l).2)))).1, (runes ((l.drop (piece l).2).take (cutL (l.drop (piece l).2) (m - (piece l).2)))).2 + 1) else ((runes ((l.drop (piece l).2).take (cutL (l.drop (piece l).2) (m - (piece l).2)))).1 + 1, (runes ((l.drop (piece l).2).take (cutL (l.drop (piece l).2) (m - (piece l).2)))).2) := by
        rw [runes, dif_neg hne2, h1, List.drop_take, Nat.add_sub_cancel_left]
        by_cases h0 : (rune l).2 = 0
        · rw [if_pos (h2.2 h0), if_pos h0]
        · rw [if_neg (fun e => h0 (h2.1 e)), if_neg h0]
      have e2 : runes l = if (rune l).2 = 0 then ((runes (l.drop (piece l).2)).1, (runes (l.drop (piece l).2)).2 + 1) else ((runes (l.drop (piece l).2)).1 + 1, (runes (l.drop (piece l).2)).2) := by rw [runes, dif_neg hne]
      rw [e1, e2, ← List.drop_drop]
      by_cases h0 : (rune l).2 = 0
      · rw [if_pos h0, if_pos h0]; simp only; omega
      · rw [if_neg h0, if_neg h0]; simp only; omega
end Qm
end Go.Proofs.YtgilagmgepogbaaDoor
