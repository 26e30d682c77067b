/-
  What the program's own scan finds, as mathematics: of a text that Quote tells it finds what was told.
-/
import Derived.Test.YtgilagmgepogbaaDoorPuts
set_option linter.unusedVariables false
namespace Go.Proofs.YtgilagmgepogbaaDoor
open Go.ChangeShapes Go.WideShapes Go.ChangeAt Go.RowKit
namespace Tg
open Qm

def encR (v : Nat) : List Nat := if valid v then enc v else [239, 191, 189]
def un2 (l : List Nat) : Option (List Nat × Nat) := if l.length < 4 then none else (pv ((l.drop 2).take 2) 0).map (fun v => ([v], 4))
def un4 (l : List Nat) : Option (List Nat × Nat) := if l.length < 6 then none else (pv ((l.drop 2).take 4) 0).map (fun v => (encR v, 6))
/-- What a slash and what stands behind it tell, and how many bytes that is. -/
def uns (l : List Nat) : Option (List Nat × Nat) :=
  if l.length < 2 then none else if l.getD 1 0 = 34 ∨ l.getD 1 0 = 92 then some ([l.getD 1 0], 2) else if l.getD 1 0 = 110 then some ([10], 2) else if l.getD 1 0 = 116 then some ([9], 2)
  else if l.getD 1 0 = 48 then some ([0], 2) else if l.getD 1 0 = 120 then un2 l else if l.getD 1 0 = 117 then un4 l else none

theorem hv_hexd {d : Nat} (h : d < 16) : hv (hexd d) = some d := by
  unfold hexd hv
  by_cases h1 : d < 10
  · rw [if_pos h1, if_pos (by omega)]; congr 1; omega
  · rw [if_neg h1, if_neg (by omega), if_pos (by omega)]; congr 1; omega
theorem pv_hex2 {v : Nat} (h : v < 256) : pv (hex2 v) 0 = some v := by
  unfold hex2
  rw [pv_cons, hv_hexd (by omega), Option.bind_some, pv_cons, hv_hexd (by omega), Option.bind_some, pv]
  congr 1; omega
theorem pv_hex4 {v : Nat} (h : v < 65536) : pv (hex4 v) 0 = some v := by
  unfold hex4
  rw [pv_cons, hv_hexd (by omega), Option.bind_some, pv_cons, hv_hexd (by omega), Option.bind_some, pv_cons, hv_hexd (by omega), Option.bind_some, pv_cons, hv_hexd (by omega), Option.bind_some, pv]
  congr 1; omega
theorem uns_x {v : Nat} (h : v < 256) (q : List Nat) : uns ([92, 120] ++ hex2 v ++ q) = some ([v], 4) := by
  have e : ((([92, 120] ++ hex2 v ++ q : List Nat).drop 2).take 2) = hex2 v := by simp [hex2]
  have hl : ¬ ([92, 120] ++ hex2 v ++ q : List Nat).length < 4 := by simp [hex2]
  have hl2 : ¬ ([92, 120] ++ hex2 v ++ q : List Nat).length < 2 := by simp [hex2]
  have h1 : ([92, 120] ++ hex2 v ++ q : List Nat).getD 1 0 = 120 := rfl
  unfold uns
  rw [if_neg hl2, h1, if_neg (by decide), if_neg (by decide), if_neg (by decide), if_neg (by decide), if_pos rfl]
  unfold un2
  rw [if_neg hl, e, pv_hex2 h]
  rfl
theorem uns_u {v : Nat} (h : v < 65536) (hv : valid v) (q : List Nat) : uns ([92, 117] ++ hex4 v ++ q) = some (enc v, 6) := by
  have e : ((([92, 117] ++ hex4 v ++ q : List Nat).drop 2).take 4) = hex4 v := by simp [hex4]
  have hl : ¬ ([92, 117] ++ hex4 v ++ q : List Nat).length < 6 := by simp [hex4]
  have hl2 : ¬ ([92, 117] ++ hex4 v ++ q : List Nat).length < 2 := by simp [hex4]
  have h1 : ([92, 117] ++ hex4 v ++ q : List Nat).getD 1 0 = 117 := rfl
  unfold uns
  rw [if_neg hl2, h1, if_neg (by decide), if_neg (by decide), if_neg (by decide), if_neg (by decide), if_neg (by decide), if_pos rfl]
  unfold un4
  rw [if_neg hl, e, pv_hex4 h]
  show some (encR v, 6) = _
  unfold encR
  rw [if_pos hv]
theorem uns_two (c : Nat) (q : List Nat) : uns (92 :: c :: q) = if c = 34 ∨ c = 92 then some ([c], 2) else if c = 110 then some ([10], 2) else if c = 116 then some ([9], 2)
  else if c = 48 then some ([0], 2) else if c = 120 then un2 (92 :: c :: q) else if c = 117 then un4 (92 :: c :: q) else none := by
  unfold uns
  rw [if_neg (by simp)]
  rfl

/-- What is told by a slash is found. -/
theorem uns_tell {v : Nat} (hv : valid v) (q : List Nat) (h92 : (tell v).headD 0 = 92) : uns (tell v ++ q) = some (enc v, (tell v).length) ∧ 2 ≤ (tell v).length ∧ ∀ x ∈ tell v, x < 128 := by
  have hh := hex_ascii v
  unfold tell at *
  by_cases h1 : v = 34
  · subst h1; rw [if_pos rfl]; exact ⟨by rw [show ([92, 34] ++ q : List Nat) = 92 :: 34 :: q from rfl, uns_two]; rfl, by decide, by decide⟩
  rw [if_neg h1] at *
  by_cases h2 : v = 92
  · subst h2; rw [if_pos rfl]; exact ⟨by rw [show ([92, 92] ++ q : List Nat) = 92 :: 92 :: q from rfl, uns_two]; rfl, by decide, by decide⟩
  rw [if_neg h2] at *
  by_cases h3 : v = 10
  · subst h3; rw [if_pos rfl]; exact ⟨by rw [show ([92, 110] ++ q : List Nat) = 92 :: 110 :: q from rfl, uns_two]; rfl, by decide, by decide⟩
  rw [if_neg h3] at *
  by_cases h4 : v = 9
  · subst h4; rw [if_pos rfl]; exact ⟨by rw [show ([92, 116] ++ q : List Nat) = 92 :: 116 :: q from rfl, uns_two]; rfl, by decide, by decide⟩
  rw [if_neg h4] at *
  by_cases h5 : v = 0
  · subst h5; rw [if_pos rfl]; exact ⟨by rw [show ([92, 48] ++ q : List Nat) = 92 :: 48 :: q from rfl, uns_two]; rfl, by decide, by decide⟩
  rw [if_neg h5] at *
  by_cases h6 : v < 32 ∨ v = 127
  · rw [if_pos h6]
    have he : enc v = [v] := by unfold enc; rw [if_pos (by omega)]
    rw [he]
    exact ⟨uns_x (by omega) q, by simp, fun x hx => (hh.1 x hx).1⟩
  rw [if_neg h6] at *
  by_cases h7 : isU v
  · rw [if_pos h7]
    unfold isU at h7
    exact ⟨uns_u (by omega) hv q, by simp, fun x hx => (hh.2 x hx).1⟩
  rw [if_neg h7] at *
  obtain ⟨c, r, e, hc, _⟩ := enc_head hv h2 h1
  rw [e] at h92
  exact absurd h92 hc

theorem take_enc {l r : List Nat} {v n : Nat} (hr : l = enc v ++ r) (hn : n = (enc v).length) : l.take n = enc v := by rw [hr, hn, List.take_left]
theorem tell_raw {v : Nat} (h : (tell v).headD 0 ≠ 92) : tell v = enc v := by
  unfold tell at *
  by_cases h1 : v = 34
  · rw [if_pos h1] at h; exact absurd rfl h
  rw [if_neg h1] at *
  by_cases h2 : v = 92
  · rw [if_pos h2] at h; exact absurd rfl h
  rw [if_neg h2] at *
  by_cases h3 : v = 10
  · rw [if_pos h3] at h; exact absurd rfl h
  rw [if_neg h3] at *
  by_cases h4 : v = 9
  · rw [if_pos h4] at h; exact absurd rfl h
  rw [if_neg h4] at *
  by_cases h5 : v = 0
  · rw [if_pos h5] at h; exact absurd rfl h
  rw [if_neg h5] at *
  by_cases h6 : v < 32 ∨ v = 127
  · rw [if_pos h6] at h; exact absurd rfl h
  rw [if_neg h6] at *
  by_cases h7 : isU v
  · rw [if_pos h7] at h; exact absurd rfl h
  rw [if_neg h7]

theorem piece_esc {l : List Nat} (hne : l ≠ []) (hb : ∀ x ∈ l, x < 256) (q : List Nat) (h92 : (piece l).1.headD 0 = 92) :
    uns ((piece l).1 ++ q) = some (l.take (piece l).2, (piece l).1.length) ∧ 2 ≤ (piece l).1.length ∧ ∀ x ∈ (piece l).1, x < 128 := by
  unfold piece at *
  by_cases h0 : (rune l).2 = 0
  · rw [if_pos h0] at *
    match l, hne with
    | c :: r, _ =>
      refine ⟨uns_x (hb c (by simp)) q, by simp [tellB], fun x hx => ((hex_ascii c).1 x hx).1⟩
  · rw [if_neg h0] at *
    obtain ⟨hv, r, hr, hn⟩ := enc_rune h0
    obtain ⟨a, b, c⟩ := uns_tell hv q h92
    refine ⟨?_, b, c⟩
    rw [a]
    rw [take_enc hr hn]

theorem piece_raw {l : List Nat} (h92 : (piece l).1.headD 0 ≠ 92) : ∃ v, valid v ∧ (piece l).1 = enc v ∧ l.take (piece l).2 = enc v := by
  unfold piece at *
  by_cases h0 : (rune l).2 = 0
  · rw [if_pos h0] at *
    exact absurd rfl h92
  · rw [if_neg h0] at *
    obtain ⟨hv, r, hr, hn⟩ := enc_rune h0
    refine ⟨_, hv, ?_, ?_⟩
    · exact tell_raw h92
    · exact take_enc hr hn

theorem fix_cons {c : Nat} {r : List Nat} (h : c < 128) : fixed (rune (c :: r)) = (c, 1) := by rw [rune1 h]; rfl
theorem fix_ascii {l : List Nat} {c : Nat} (hne : l ≠ []) (h : (fixed (rune l)).1 = c) (hc : c < 128) : (fixed (rune l)).2 = 1 ∧ ∃ r, l = c :: r := by
  unfold fixed at *
  by_cases h0 : (rune l).2 = 0
  · rw [if_pos h0] at h
    simp at h
    omega
  · rw [if_neg h0] at *
    rcases rune_cases l with ⟨a, b⟩ | ⟨d, r, rfl, hd, e⟩ | ⟨d, d2, r, rfl, hd, e⟩ | ⟨d, d2, d3, r, rfl, hd, e⟩ | ⟨d, d2, d3, d4, r, rfl, hd, e⟩
    · exact absurd a h0
    · rw [e] at h
      obtain rfl : d = c := h
      exact ⟨by rw [e], r, rfl⟩
    · rw [e] at h
      simp at h
      unfold isC at hd
      omega
    · rw [e] at h
      simp at h
      unfold ok3 at hd
      omega
    · rw [e] at h
      simp at h
      unfold ok4 at hd
      omega

/-- What is still to come of a text that Quote tells. -/
def Tl (t s0 rest m : List Nat) (k : Nat) : Prop := ∃ r, s0 = m ++ r ∧ t.drop k = body r ++ 34 :: rest
def Ts (t m : List Nat) (pos next : Nat) : Prop := ∀ s0 rest, t = told s0 ++ rest → (∀ y ∈ s0, y < 256) → Tl t s0 rest m (max pos next) ∧ ∀ j, pos ≤ j → j < next → t.getD j 0 < 128

theorem Ts_start (t : List Nat) : Ts t [] 0 1 := by
  intro s0 rest h hb
  refine ⟨⟨s0, rfl, ?_⟩, fun j _ hj => ?_⟩
  · rw [h]; simp [told]
  · obtain rfl : j = 0 := by omega
    rw [h]; simp [told]

theorem body_head {r : List Nat} (hne : r ≠ []) (hb : ∀ x ∈ r, x < 256) : ∃ c q, body r = c :: q ∧ c ≠ 34 ∧ (piece r).1.headD 0 = c := by
  obtain ⟨c, q, e, hc⟩ := (one_piece hne hb []).2
  rw [body_cons hne, e]
  exact ⟨c, _, rfl, hc, rfl⟩

theorem Ts_skip {t m : List Nat} {pos next : Nat} (h : Ts t m pos next) (hp : pos < next) (hl : pos < t.length) : Ts t m (pos + (fixed (rune (t.drop pos))).2) next := by
  intro s0 rest ht hb
  obtain ⟨h1, h2⟩ := h s0 rest ht hb
  have hd : t.drop pos = t.getD pos 0 :: t.drop (pos + 1) := by
    rw [List.drop_eq_getElem_cons hl]
    simp [List.getD, hl]
  have ha := h2 pos (by omega) hp
  rw [hd, fix_cons ha]
  refine ⟨?_, fun j hj => h2 j (by omega)⟩
  rw [show max (pos + 1) next = max pos next by omega]
  exact h1

theorem Ts_end {t m : List Nat} {pos next : Nat} (h : Ts t m pos next) (hp : ¬ pos < next) (hne : t.drop pos ≠ []) (h34 : (fixed (rune (t.drop pos))).1 = 34) :
    ∀ s0 rest, t = told s0 ++ rest → (∀ y ∈ s0, y < 256) → m = s0 ∧ pos + 1 = (told s0).length := by
  intro s0 rest ht hb
  obtain ⟨⟨r, hr, hd⟩, _⟩ := h s0 rest ht hb
  rw [show max pos next = pos by omega] at hd
  obtain ⟨_, q, hq⟩ := fix_ascii hne h34 (by omega)
  have hr0 : r = [] := by
    by_cases e : r = []
    · exact e
    · obtain ⟨c, q', hc, h1, _⟩ := body_head e (fun x hx => hb x (by rw [hr]; simp [hx]))
      rw [hq, hc] at hd
      simp at hd
      exact absurd hd.1.symm h1
  subst hr0
  rw [List.append_nil] at hr
  refine ⟨hr.symm, ?_⟩
  rw [body_nil] at hd
  have h1 := congrArg List.length hd
  have h2 := congrArg List.length ht
  rw [List.length_drop] at h1
  rw [List.length_append] at h2
  simp at h1
  omega

theorem Ts_esc {t m : List Nat} {pos next : Nat} (h : Ts t m pos next) (hp : ¬ pos < next) (hne : t.drop pos ≠ []) (h92 : (fixed (rune (t.drop pos))).1 = 92) :
    (uns (t.drop pos) = none → ∀ s0 rest, t = told s0 ++ rest → ¬ (∀ y ∈ s0, y < 256)) ∧ (∀ x k, uns (t.drop pos) = some (x, k) → Ts t (m ++ x) (pos + 1) (pos + k)) := by
  have key : ∀ s0 rest, t = told s0 ++ rest → (∀ y ∈ s0, y < 256) → ∃ x k, uns (t.drop pos) = some (x, k) ∧ 2 ≤ k ∧ Tl t s0 rest (m ++ x) (pos + k) ∧ ∀ j, pos ≤ j → j < pos + k → t.getD j 0 < 128 := by
    intro s0 rest ht hb
    obtain ⟨⟨r, hr, hd⟩, _⟩ := h s0 rest ht hb
    rw [show max pos next = pos by omega] at hd
    obtain ⟨_, q, hq⟩ := fix_ascii hne h92 (by omega)
    have hr0 : r ≠ [] := by
      intro e
      rw [e, body_nil, hq] at hd
      simp at hd
    have hbr : ∀ x ∈ r, x < 256 := fun x hx => hb x (by rw [hr]; simp [hx])
    obtain ⟨c, q', hc, h1, h2⟩ := body_head hr0 hbr
    have hc92 : c = 92 := by
      rw [hq, hc] at hd
      simp at hd
      exact hd.1.symm
    obtain ⟨a1, a2, a3⟩ := piece_esc hr0 hbr (body (r.drop (piece r).2) ++ 34 :: rest) (by rw [h2, hc92])
    rw [body_cons hr0, List.append_assoc] at hd
    rw [← hd] at a1
    refine ⟨_, _, a1, a2, ⟨r.drop (piece r).2, ?_, ?_⟩, ?_⟩
    · rw [List.append_assoc, List.take_append_drop]; exact hr
    · rw [← List.drop_drop, hd, List.drop_left]
    · intro j hj hj2
      have e : t.getD j 0 = (t.drop pos).getD (j - pos) 0 := by
        rw [drop_getD]; congr 1; omega
      rw [e, hd]
      have hlt : j - pos < (piece r).1.length := by omega
      rw [List.getD, List.getElem?_append_left hlt, List.getElem?_eq_getElem hlt]
      exact a3 _ (List.getElem_mem hlt)
  refine ⟨fun hn s0 rest ht hb => ?_, fun x k hx s0 rest ht hb => ?_⟩
  · obtain ⟨x, k, e, _⟩ := key s0 rest ht hb
    rw [hn] at e
    cases e
  · obtain ⟨x', k', e, h1, h2, h3⟩ := key s0 rest ht hb
    rw [hx] at e
    simp at e
    obtain ⟨rfl, rfl⟩ := e
    rw [show max (pos + 1) (pos + k) = pos + k by omega]
    exact ⟨h2, fun j hj => h3 j (by omega)⟩

theorem Ts_app {t m : List Nat} {pos next : Nat} (h : Ts t m pos next) (hp : ¬ pos < next) (hne : t.drop pos ≠ []) (h34 : (fixed (rune (t.drop pos))).1 ≠ 34) (h92 : (fixed (rune (t.drop pos))).1 ≠ 92) :
    Ts t (m ++ enc (fixed (rune (t.drop pos))).1) (pos + (fixed (rune (t.drop pos))).2) next := by
  intro s0 rest ht hb
  obtain ⟨⟨r, hr, hd⟩, _⟩ := h s0 rest ht hb
  rw [show max pos next = pos by omega] at hd
  have hr0 : r ≠ [] := by
    intro e
    rw [e, body_nil] at hd
    apply h34
    rw [hd, List.nil_append, fix_cons (by omega)]
  have hbr : ∀ x ∈ r, x < 256 := fun x hx => hb x (by rw [hr]; simp [hx])
  obtain ⟨c, q', hc, h1, h2⟩ := body_head hr0 hbr
  have hc92 : c ≠ 92 := by
    rintro rfl
    apply h92
    rw [hd, hc, List.cons_append, fix_cons (by omega)]
  obtain ⟨v, hv, e1, e2⟩ := piece_raw (by rw [h2]; exact hc92)
  rw [body_cons hr0, List.append_assoc, e1] at hd
  have hf : fixed (rune (t.drop pos)) = (v, (enc v).length) := by
    rw [hd, rune_enc hv]
    unfold fixed
    rw [if_neg (by have := (enc_len v).1; show ¬ (enc v).length = 0; omega)]
  rw [hf]
  refine ⟨⟨r.drop (piece r).2, ?_, ?_⟩, fun j hj hj2 => by simp at hj; omega⟩
  · rw [List.append_assoc, ← e2, List.take_append_drop]; exact hr
  · show t.drop (max (pos + (enc v).length) next) = _
    rw [show max (pos + (enc v).length) next = pos + (enc v).length by omega, ← List.drop_drop, hd, List.drop_left]

theorem Ts_out {t m : List Nat} {pos next : Nat} (h : Ts t m pos next) (hp : t.length ≤ pos) : ∀ s0 rest, t = told s0 ++ rest → ¬ (∀ y ∈ s0, y < 256) := by
  intro s0 rest ht hb
  obtain ⟨⟨r, hr, hd⟩, _⟩ := h s0 rest ht hb
  rw [List.drop_of_length_le (by omega)] at hd
  have := congrArg List.length hd
  simp at this

theorem pv_bd : ∀ (l : List Nat) (a v : Nat), pv l a = some v → v < (a + 1) * 16 ^ l.length
  | [], a, v, h => by
    rw [pv] at h
    simp at h
    subst h
    simp
  | c :: r, a, v, h => by
    rw [pv_cons] at h
    cases hc : hv c with
    | none => rw [hc] at h; cases h
    | some d =>
      rw [hc, Option.bind_some] at h
      have h1 := pv_bd r _ v h
      have h2 := hv_lt hc
      have h3 : (a * 16 + d + 1) * 16 ^ r.length ≤ ((a + 1) * 16) * 16 ^ r.length := Nat.mul_le_mul_right _ (by omega)
      rw [List.length_cons, Nat.pow_succ, Nat.mul_comm (16 ^ r.length) 16, ← Nat.mul_assoc]
      omega

theorem encR_bd {v : Nat} (h : v < 65536) : (encR v).length ≤ 3 ∧ ∀ y ∈ encR v, y < 256 := by
  unfold encR
  split
  · rename_i hv
    refine ⟨?_, enc_byte hv⟩
    unfold enc
    repeat' split
    all_goals simp
  · exact ⟨by simp, by decide⟩

theorem uns_bd {l x : List Nat} {k : Nat} (hb : ∀ y ∈ l, y < 256) (h : uns l = some (x, k)) : 2 ≤ k ∧ k ≤ l.length ∧ x.length ≤ 3 ∧ ∀ y ∈ x, y < 256 := by
  unfold uns at h
  by_cases h0 : l.length < 2
  · rw [if_pos h0] at h; cases h
  rw [if_neg h0] at h
  have hg : l.getD 1 0 < 256 := by
    have h1 : 1 < l.length := by omega
    rw [List.getD, List.getElem?_eq_getElem h1]
    exact hb _ (List.getElem_mem h1)
  generalize l.getD 1 0 = c at *
  have two : ∀ y, y < 256 → some ([y], 2) = some (x, k) → 2 ≤ k ∧ k ≤ l.length ∧ x.length ≤ 3 ∧ ∀ y ∈ x, y < 256 := by
    intro y hy e
    simp at e
    obtain ⟨rfl, rfl⟩ := e
    exact ⟨by omega, by omega, by simp, by simpa using hy⟩
  by_cases h1 : c = 34 ∨ c = 92
  · rw [if_pos h1] at h; exact two c hg h
  rw [if_neg h1] at h
  by_cases h2 : c = 110
  · rw [if_pos h2] at h; exact two _ (by omega) h
  rw [if_neg h2] at h
  by_cases h3 : c = 116
  · rw [if_pos h3] at h; exact two _ (by omega) h
  rw [if_neg h3] at h
  by_cases h4 : c = 48
  · rw [if_pos h4] at h; exact two _ (by omega) h
  rw [if_neg h4] at h
  by_cases h5 : c = 120
  · rw [if_pos h5] at h
    unfold un2 at h
    by_cases h6 : l.length < 4
    · rw [if_pos h6] at h; cases h
    rw [if_neg h6] at h
    cases hp : pv ((l.drop 2).take 2) 0 with
    | none => rw [hp] at h; cases h
    | some v =>
      rw [hp] at h
      have hv := pv_bd _ _ _ hp
      rw [List.length_take, List.length_drop, show min 2 (l.length - 2) = 2 by omega] at hv
      simp at h
      obtain ⟨rfl, rfl⟩ := h
      exact ⟨by omega, by omega, by simp, by simp; omega⟩
  rw [if_neg h5] at h
  by_cases h7 : c = 117
  · rw [if_pos h7] at h
    unfold un4 at h
    by_cases h6 : l.length < 6
    · rw [if_pos h6] at h; cases h
    rw [if_neg h6] at h
    cases hp : pv ((l.drop 2).take 4) 0 with
    | none => rw [hp] at h; cases h
    | some v =>
      rw [hp] at h
      have hv := pv_bd _ _ _ hp
      rw [List.length_take, List.length_drop, show min 4 (l.length - 2) = 4 by omega] at hv
      simp at h
      obtain ⟨rfl, rfl⟩ := h
      have := encR_bd (v := v) (by omega)
      exact ⟨by omega, by omega, this.1, this.2⟩
  rw [if_neg h7] at h
  cases h

theorem encode_eq (v : Nat) : Utf8.encode (v : Int) = str (encR v) := by
  unfold Utf8.encode encR
  rw [valid_eq]
  by_cases h : valid v
  · rw [if_pos h]
    simp only [h, decide_true, if_true, Int.toNat_natCast]
    unfold enc str
    repeat' split
    all_goals rfl
  · rw [if_neg h]
    simp only [h, decide_false, Bool.false_eq_true, if_false]
    rfl
end Tg
end Go.Proofs.YtgilagmgepogbaaDoor
