/-
  Read over any memory: it answers as the document's own does.
-/
import Derived.Test.YtgilagmgepogbaaDoorScan
namespace Go.Proofs.YtgilagmgepogbaaDoor
open Go.ChangeShapes Go.WideShapes Go.ChangeAt Go.RowKit
namespace Tg
open Qm

set_option maxRecDepth 100000 in
theorem digit_lt {c d : Nat} (h : digit c = some d) : d < 16 := by
  unfold digit at h
  repeat' split at h
  all_goals simp at h
  all_goals omega
set_option maxRecDepth 100000 in
theorem dig2_lt {l : List Nat} {v : Nat} (h : dig2 l = some v) : v < 256 := by
  match l with
  | [] => cases h
  | [_] => cases h
  | a :: b :: r =>
    simp only [dig2] at h
    cases ha : digit a with
    | none => rw [ha] at h; cases h
    | some x =>
      cases hb : digit b with
      | none => rw [ha, hb] at h; cases h
      | some y =>
        rw [ha, hb] at h
        simp at h
        have := digit_lt ha; have := digit_lt hb
        omega
set_option maxRecDepth 100000 in
theorem dig4_lt {l : List Nat} {v : Nat} (h : dig4 l = some v) : v < 65536 := by
  match l with
  | [] => cases h
  | [_] => cases h
  | [_, _] => cases h
  | [_, _, _] => cases h
  | a :: b :: c :: d :: r =>
    simp only [dig4] at h
    cases ha : digit a with
    | none => rw [ha] at h; cases h
    | some x =>
      cases hb : digit b with
      | none => rw [ha, hb] at h; cases h
      | some y =>
        cases hc : digit c with
        | none => rw [ha, hb, hc] at h; cases h
        | some z =>
          cases hd : digit d with
          | none => rw [ha, hb, hc, hd] at h; cases h
          | some u =>
            rw [ha, hb, hc, hd] at h
            simp at h
            have := digit_lt ha; have := digit_lt hb; have := digit_lt hc; have := digit_lt hd
            omega
set_option maxRecDepth 100000 in
theorem enc_small {v : Nat} (h : v < 65536) : ∀ y ∈ enc v, y < 256 := by
  unfold enc
  split
  · simp; omega
  · split
    · simp; omega
    · simp; omega
set_option maxRecDepth 100000 in
theorem one_bytes {l : List Nat} (h : ∀ x ∈ l, x < 256) : ∀ y ∈ (one l).1, y < 256 := by
  match l with
  | [] => simp [one]
  | c :: r =>
    simp only [one]
    by_cases hc : c ≠ 92
    · rw [if_pos hc]
      intro y hy
      exact h y (List.mem_of_mem_take hy)
    · rw [if_neg hc]
      match r with
      | [] => simp
      | k :: q =>
        have hk := h k (by simp)
        simp only
        split
        · simp; exact hk
        · split
          · simp
          · split
            · simp
            · split
              · simp
              · split
                · cases hd : dig2 q with
                  | none => simp
                  | some v => have := dig2_lt hd; simp; omega
                · split
                  · cases hd : dig4 q with
                    | none => simp
                    | some v => exact enc_small (dig4_lt hd)
                  · simp
set_option maxRecDepth 100000 in
theorem scan_bytes : ∀ (fuel : Nat) (t s : List Nat) (k : Nat) (x : List Nat) (n : Nat), (∀ y ∈ t, y < 256) → (∀ y ∈ s, y < 256) → Qm.scan t s k fuel = some (x, n) → ∀ y ∈ x, y < 256
  | 0, _, _, _, _, _, _, _, h => by simp [Qm.scan] at h
  | f + 1, t, s, k, x, n, ht, hs, h => by
    match t with
    | [] => simp [Qm.scan] at h
    | c :: r =>
      simp only [Qm.scan] at h
      by_cases hc : c = 34
      · rw [if_pos hc] at h
        simp at h
        rw [← h.1]
        exact hs
      · rw [if_neg hc] at h
        by_cases h0 : (one (c :: r)).2 = 0
        · rw [if_pos h0] at h; cases h
        · rw [if_neg h0] at h
          refine scan_bytes f _ _ _ x n (fun y hy => ht y (List.mem_of_mem_drop hy)) (fun y hy => ?_) h
          rcases List.mem_append.1 hy with hy | hy
          · exact hs y hy
          · exact one_bytes ht y hy
set_option maxRecDepth 100000 in
theorem read_bytes {t x : List Nat} {n : Nat} (ht : ∀ y ∈ t, y < 256) (h : Qm.read t = some (x, n)) : ∀ y ∈ x, y < 256 := by
  match t with
  | [] => simp [Qm.read] at h
  | c :: r =>
    simp only [Qm.read] at h
    by_cases hc : c = 34
    · rw [if_pos hc] at h
      cases hsc : Qm.scan r [] 1 (r.length + 1) with
      | none => rw [hsc] at h; cases h
      | some q =>
        obtain ⟨s', k⟩ := q
        rw [hsc] at h
        simp only at h
        by_cases ht2 : told s' = (c :: r).take (k + 1)
        · rw [if_pos ht2] at h
          simp only [Option.some.injEq, Prod.mk.injEq] at h
          rw [← h.1]
          exact scan_bytes _ _ _ _ _ _ (fun y hy => ht y (by simp [hy])) (by simp) hsc
        · rw [if_neg ht2] at h; cases h
    · rw [if_neg hc] at h; cases h

set_option maxRecDepth 100000 in
/-- What scan found decides what is read. -/
theorem scan_read {t x : List Nat} {n : Nat} (ht : ∀ y ∈ t, y < 256) (h : ScanOk t x n) : Qm.read t = if n ≠ 0 ∧ told x = t.take n then some (x, n) else none := by
  obtain ⟨h1, h2, h3, h4⟩ := h
  by_cases hc : n ≠ 0 ∧ told x = t.take n
  · rw [if_pos hc]
    have e : t = told x ++ t.drop n := by rw [hc.2, List.take_append_drop]
    have hl : (told x).length = n := by rw [hc.2, List.length_take]; omega
    rw [e, read_told h2, hl]
  · rw [if_neg hc]
    cases hr : Qm.read t with
    | none => rfl
    | some q =>
      exfalso
      obtain ⟨s0, n0⟩ := q
      obtain ⟨e1, e2⟩ := read_some hr
      obtain ⟨rfl, rfl⟩ := h4 s0 _ e2 (read_bytes ht hr)
      apply hc
      refine ⟨by rw [told_len]; omega, ?_⟩
      conv => rhs; rw [e2]
      rw [List.take_left]

set_option maxRecDepth 100000 in
theorem told_byte (l : List Nat) : ∀ x ∈ told l, x < 256 := by
  have hp : ∀ l : List Nat, (∀ x ∈ (piece l).1, x < 256) := fun l => by
    have hh := fun v => hex_ascii v
    unfold piece
    split
    · intro x hx; have := ((hh (l.headD 0)).1 x hx).1; omega
    · rename_i h0
      have hv := (enc_rune h0).1
      generalize (rune l).1 = v at *
      by_cases h92 : (tell v).headD 0 = 92
      · intro x hx; have := (uns_tell hv [] h92).2.2 x hx; omega
      · show ∀ x ∈ tell v, _
        rw [tell_raw h92]; exact enc_byte hv
  have hbody : ∀ x ∈ body l, x < 256 := by
    refine list_ind (P := fun l => ∀ x ∈ body l, x < 256) (by rw [body_nil]; simp) (fun l hne ih => ?_) l
    rw [body_cons hne]
    intro x hx
    rcases List.mem_append.1 hx with hx | hx
    · exact hp l x hx
    · exact ih x hx
  intro x hx
  simp [told] at hx
  rcases hx with rfl | hx | rfl
  · omega
  · exact hbody x hx
  · omega

set_option maxRecDepth 100000 in
theorem bs_take (t : ByteArray) (n : Nat) : bs (t.extract 0 n) = (bs t).take n := by
  have := bs_extract t 0 n
  rwa [Nat.zero_add, List.drop_zero] at this

set_option maxRecDepth 100000 in
theorem Keep.drewN {S : Nat → Prop} {a w : World} (h : Keep S a w) (n : Nat) : Keep S a (w.drewN n) := ⟨h.os, h.tape, h.output, h.size, h.block⟩

set_option maxHeartbeats 2000000 in
set_option maxRecDepth 100000 in
/-- Read. -/
theorem read_any (t : ByteArray) (hs : t.size ≤ 10000000000000) (w : World) (hG : Gl w) : Calls Tryd.prog 48 #[.string t] w fun e w' =>
    ((∃ x n, Qm.read (bs t) = some (x, n) ∧ e = .returned (.tuple #[.string (str x), .int .i64 (n : Nat), .int .i64 0])) ∨ (Qm.read (bs t) = none ∧ e = .returned (.tuple #[.string ⟨#[]⟩, .int .i64 0, .int .i64 3]))) ∧ Keep (fun _ => False) w w' := by
  have hsc := scan_any t (by omega) w hG
  go_enter Tryd.func48, Tryd.ntmps48
  go_wp2_with fail
  refine hsc.mono ?_
  rintro e w1 ⟨x, n, rfl, hS, hk1⟩
  have hR := scan_read (bs_byte t) hS
  obtain ⟨s1, s2, s3, _⟩ := hS
  rw [bs_len] at s1 s3
  have hq := fun W => quote_any (str x) (by rw [str_size]; omega) W
  rw [bs_str s2] at hq
  by_cases hn : n = 0
  · rw [if_neg (fun h => h.1 hn)] at hR
    subst hn
    have HR : Hid (Qm.read (bs t) = none) := hR
    clear hR s1 s2 s3
    go_wp2_with fail
    go_quiet (fail)
    go_wp2_with fail
    go_ret3
    exact ⟨Or.inr ⟨HR.out, rfl⟩, hk1.drewN _⟩
  · have n0 : ((n : Int) == 0) = false := by rw [beq_eq_false_iff_ne]; omega
    have n1 : ¬ (n : Int) = 0 := by omega
    have n2 : (n : Int) ≤ t.size := by omega
    by_cases hc : told x = (bs t).take n
    · rw [if_pos ⟨hn, hc⟩] at hR
      have he : t.extract 0 n = str (told x) := by rw [hc, ← bs_take, str_bs]
      have HR : Hid (Qm.read (bs t) = some (x, n)) := hR
      clear hR s1 s2 s3 hn hc
      rw [← he] at hq
      clear he
      go_wp2_with fail
      go_region_with (
          go_at_call 53
          refine (hq _).mono ?_
          rintro e w2 ⟨rfl, hk2⟩)
      all_goals (
        go_wp2_with fail
        go_ret3
        exact ⟨Or.inl ⟨x, n, HR.out, rfl⟩, (hk1.drew).trans hk2⟩)
    · rw [if_neg (fun h => hc h.2)] at hR
      have he : ((str (told x)).toList == (t.extract 0 n).toList) = false := beq_no fun e => hc (by rw [← bs_take, ← e, bs_str (told_byte x)])
      have HR : Hid (Qm.read (bs t) = none) := hR
      clear hR s1 s2 s3 hn hc
      go_wp2_with fail
      go_region_with (
          go_at_call 53
          refine (hq _).mono ?_
          rintro e w2 ⟨rfl, hk2⟩)
      all_goals (
        go_wp2_with fail
        go_ret3
        exact ⟨Or.inr ⟨HR.out, rfl⟩, (hk1.drew).trans hk2⟩)
end Tg
end Go.Proofs.YtgilagmgepogbaaDoor
