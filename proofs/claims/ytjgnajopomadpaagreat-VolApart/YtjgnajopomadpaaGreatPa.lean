/-
  The document's own Good.
-/
import Derived.Test.YtjgnajopomadpaaGreatOc
namespace Go.Proofs.YtjgnajopomadpaaGreat
open Go.ChangeShapes Go.WideShapes Go.ChangeAt Go.RowKit
namespace Tg
open Qm
/-- Are all runes well formed, none below 33 or 127? -/
def gdF : Nat → List Nat → Bool
  | 0, _ => true
  | _ + 1, [] => true
  | k + 1, c :: r => if (rune (c :: r)).2 = 0 ∨ (rune (c :: r)).1 < 33 ∨ (rune (c :: r)).1 = 127 then false else gdF k ((c :: r).drop (rune (c :: r)).2)
theorem gdF_any : ∀ (k j : Nat) (l : List Nat), l.length ≤ k → l.length ≤ j → gdF k l = gdF j l
  | 0, j, l, h, _ => by
    have : l = [] := List.eq_nil_of_length_eq_zero (by omega)
    subst this
    cases j <;> rfl
  | k + 1, j, [], _, _ => by cases j <;> rfl
  | k + 1, 0, c :: r, _, h => by simp at h
  | k + 1, j + 1, c :: r, h1, h2 => by
    unfold gdF
    split
    · rfl
    · next hb =>
      have h3 : ((c :: r).drop (rune (c :: r)).2).length = (c :: r).length - (rune (c :: r)).2 := List.length_drop
      have h4 : (rune (c :: r)).2 ≠ 0 := fun e => hb (Or.inl e)
      exact gdF_any k j _ (by omega) (by omega)
def gd (l : List Nat) : Bool := gdF l.length l
theorem gd_bad {l : List Nat} (hl : l ≠ []) (h : (rune l).2 = 0 ∨ (rune l).1 < 33 ∨ (rune l).1 = 127) : gd l = false := by
  cases l with
  | nil => exact absurd rfl hl
  | cons c r => unfold gd gdF; exact if_pos h
theorem gd_next {l : List Nat} (hl : l ≠ []) (h : ¬ ((rune l).2 = 0 ∨ (rune l).1 < 33 ∨ (rune l).1 = 127)) : gd l = gd (l.drop (rune l).2) := by
  cases l with
  | nil => exact absurd rfl hl
  | cons c r =>
    unfold gd
    rw [List.length_cons, gdF, if_neg h]
    have h4 : (rune (c :: r)).2 ≠ 0 := fun e => h (Or.inl e)
    have h3 : ((c :: r).drop (rune (c :: r)).2).length = (c :: r).length - (rune (c :: r)).2 := List.length_drop
    rw [List.length_cons] at h3
    exact gdF_any _ _ _ (by omega) (by omega)
/-- May a name be? -/
def goodS (l : List Nat) : Bool := gd l && (decide (1 ≤ l.length) && decide (l.length ≤ 16))
set_option maxRecDepth 100000 in
set_option maxHeartbeats 1000000 in
theorem rgood25 (s : ByteArray) (hs : s.size ≤ 9223372036854775807) (w : World) : Calls Tryz.prog 16 #[.string s] w fun e w' => e = .returned (.bool (goodS (bs s))) ∧ w' = w := by
  obtain ⟨G, hG⟩ : ∃ G, RowKit.Hid (G = gd (bs s)) := ⟨_, rfl⟩
  have hA : RowKit.Hid (goodS (bs s) = (G && (decide (1 ≤ s.size) && decide (s.size ≤ 16)))) := by
    show _ = _
    unfold goodS
    rw [bs_len, hG.out]
  have hs' : RowKit.Hid (s.size ≤ 9223372036854775807) := hs
  rw [hA.out]
  obtain ⟨D1, hD1⟩ : ∃ D1, RowKit.Hid (D1 = decide (1 ≤ s.size)) := ⟨_, rfl⟩
  obtain ⟨D2, hD2⟩ : ∃ D2, RowKit.Hid (D2 = decide (s.size ≤ 16)) := ⟨_, rfl⟩
  rw [← hD1.out, ← hD2.out]
  clear hA hs
  go_enter Tryz.func16, Tryz.ntmps16
  go_wp2_with fail
  go_loop [3] (fun x => ∃ t : ByteArray, x = .string t ∧ RowKit.Hid (t.size ≤ s.size) ∧ RowKit.Hid (G = gd (bs t))) (fun x => match x with | .string t => t.size | _ => 0)
  case atStart => exact ⟨s, rfl, Nat.le_refl _, hG.out⟩
  case round =>
    clear hG
    obtain ⟨t, rfl, ht, hg⟩ := hrel
    by_cases h0 : t.size = 0
    · have hb : bs t = [] := List.eq_nil_of_length_eq_zero (by rw [bs_len]; exact h0)
      have hG1 : G = true := by rw [hg.out, hb]; rfl
      subst hG1
      have ht0 : ¬ (0 : Int) < t.size := by omega
      have hD1' : RowKit.Hid (D1 = decide ((1 : Int) ≤ s.size)) := by show _ = _; rw [hD1.out]; congr 1; simp only [eq_iff_iff]; omega
      have hD2' : RowKit.Hid (D2 = decide ((s.size : Int) ≤ 16)) := by show _ = _; rw [hD2.out]; congr 1; simp only [eq_iff_iff]; omega
      clear hb hD1 hD2 hg ht h0
      cases D1 with
      | false =>
        have q1 : decide ((1 : Int) ≤ s.size) = false := hD1'.out.symm
        have q2 : ¬ (1 : Int) ≤ s.size := by simpa using q1
        clear hD1' hD2'
        go_wp2_with fail
        go_ret
        exact ⟨by simp, rfl⟩
      | true =>
        have q1 : decide ((1 : Int) ≤ s.size) = true := hD1'.out.symm
        have q2 : (1 : Int) ≤ s.size := by simpa using q1
        cases D2 with
        | false =>
          have q3 : decide ((s.size : Int) ≤ 16) = false := hD2'.out.symm
          have q4 : ¬ (s.size : Int) ≤ 16 := by simpa using q3
          clear hD1' hD2'
          go_wp2_with fail
          go_ret
          exact ⟨by simp, rfl⟩
        | true =>
          have q3 : decide ((s.size : Int) ≤ 16) = true := hD2'.out.symm
          have q4 : (s.size : Int) ≤ 16 := by simpa using q3
          clear hD1' hD2'
          go_wp2_with fail
          go_ret
          exact ⟨by simp, rfl⟩
    · have hp0 : (0 : Int) < t.size := by omega
      have hne : bs t ≠ [] := fun e => h0 (by have := bs_len t; rw [e] at this; simpa using this.symm)
      have hru := rrune_any t (by have := ht.out; have := hs'.out; omega) w
      have hlen := rune_len (l := bs t)
      rw [bs_len] at hlen
      have hbad := gd_bad hne
      have hnx := gd_next hne
      rw [← bs_drop] at hnx
      obtain ⟨n, hn⟩ : ∃ n, (rune (bs t)).2 = n := ⟨_, rfl⟩
      obtain ⟨v, hv⟩ : ∃ v, (rune (bs t)).1 = v := ⟨_, rfl⟩
      rw [hn, hv] at hru hbad hnx
      rw [hn] at hlen
      have hfin : RowKit.Hid ((n = 0 ∨ v < 33 ∨ v = 127) → G = false) := fun c => by rw [hg.out]; exact hbad c
      have hnx' : RowKit.Hid (¬ (n = 0 ∨ v < 33 ∨ v = 127) → G = gd (bs (t.extract n t.size))) := fun c => by rw [hg.out]; exact hnx c
      have hT : RowKit.Hid (∀ k, 1 ≤ k → k ≤ t.size → (t.extract k t.size).size ≤ s.size ∧ (t.extract k t.size).size < t.size) := fun k h1 h2 => by have := ht.out; simp; omega
      clear hbad hnx hne hn hv hg
      have i1 : (n : Int) ≤ t.size := by omega
      by_cases hz : n = 0
      · have q1 : ((n : Int) == 0) = true := by simp [hz]
        have hG1 : G = false := hfin.out (Or.inl hz)
        subst hG1
        clear hfin hnx' hT hz h0 hlen i1
        go_wp2_with fail
        refine hru.mono ?_
        rintro e w' ⟨rfl, rfl⟩
        go_wp2_with fail
        go_ret
        exact ⟨by simp, rfl⟩
      · have q1 : ((n : Int) == 0) = false := by simp [hz]
        by_cases hv : v < 33
        · have q2 : decide ((v : Int) < 33) = true := decide_eq_true (by omega)
          have q3 : (v : Int) < 33 := by omega
          have hG1 : G = false := hfin.out (Or.inr (Or.inl hv))
          subst hG1
          clear hfin hnx' hT hz h0 hlen i1 hv
          go_wp2_with fail
          refine hru.mono ?_
          rintro e w' ⟨rfl, rfl⟩
          go_wp2_with fail
          go_ret
          exact ⟨by simp, rfl⟩
        · have q2 : decide ((v : Int) < 33) = false := decide_eq_false (by omega)
          have q3 : ¬ (v : Int) < 33 := by omega
          by_cases h7 : v = 127
          · have q4 : ((v : Int) == 127) = true := by simp [h7]
            have hG1 : G = false := hfin.out (Or.inr (Or.inr h7))
            subst hG1
            clear hfin hnx' hT hz h0 hlen i1 hv h7
            go_wp2_with fail
            refine hru.mono ?_
            rintro e w' ⟨rfl, rfl⟩
            go_wp2_with fail
            go_ret
            exact ⟨by simp, rfl⟩
          · have q4 : ((v : Int) == 127) = false := by rw [beq_eq_false_iff_ne]; omega
            have hg2 : RowKit.Hid (G = gd (bs (t.extract n t.size))) := hnx'.out (by omega)
            obtain ⟨t1, t2⟩ := hT.out n (by omega) hlen
            have t1' : RowKit.Hid _ := t1
            have t2' : RowKit.Hid _ := t2
            clear hfin hnx' hT hz h0 hlen hv h7 t1 t2
            go_wp2_with fail
            refine hru.mono ?_
            rintro e w' ⟨rfl, rfl⟩
            go_wp2_with fail
            go_round
            case rel => exact ⟨t.extract n t.size, rfl, t1', hg2⟩
            case measure => exact t2'.out
end Tg
end Go.Proofs.YtjgnajopomadpaaGreat
