/-
  Why bytes are no page, as the program tells it.
-/
import Derived.Test.YtgohmjidbbecpaaEnc
import Derived.Deep.QuietTactic
import Derived.BigQuiet
namespace Go.Proofs.Ytgohmjidbbecpaa
open Go.ChangeShapes Go.WideShapes Go.ChangeAt Go.RowKit
namespace Tg
open Crc

/-- Why bytes are no page; 0, if they are one. -/
def dcode (n : Nat) (c : Nat → Int) : Int :=
  if n ≠ 68 then 1 else if cleanB (tab n c) = true then 4 else if ¬ (c 64 = 68 ∧ c 65 = 79 ∧ c 66 = 78 ∧ c 67 = 69) then 9
  else if num (fun i => c (60 + i)) 4 ≠ val (more 0#32 (tab 60 c)) then 10 else if ¬ (1 ≤ c 0 ∧ c 0 ≤ 3 ∧ c 1 = 0 ∧ c 2 = 0 ∧ c 3 = 0) then 11 else 0

theorem Keep.drewN {S : Nat → Prop} {a w : World} (h : Keep S a w) (n : Nat) : Keep S a (w.drewN n) := ⟨h.os, h.tape, h.output, h.size, h.block⟩

theorem Row.cells {w : World} {a : Option Addr} {n cap : Nat} {c : Nat → Int} (h : Row w a n cap (tab n c)) (hn : 0 < n) : ∃ b o, a = some ⟨b, o, none⟩ ∧ ∀ i, i < n → w.cell? ⟨b, o + i, none⟩ = some (.int .u8 (c i)) := by
  rcases h.2.2.2.2 with h0 | ⟨b, o, e, hc⟩
  · omega
  · exact ⟨b, o, e, fun i hi => by rw [hc i hi, tab_get c hi]⟩

theorem Row.sub {w : World} {b o n cap : Nat} {c : Nat → Int} (hc : ∀ i, i < n → w.cell? ⟨b, o + i, none⟩ = some (.int .u8 (c i))) (hb : ∀ i, i < n → 0 ≤ c i ∧ c i ≤ 255) (s m : Nat) (hm : s + m ≤ n) (hcm : m ≤ cap) (hcap : cap ≤ 9223372036854775807) :
    Row w (some ⟨b, o + s, none⟩) m cap (tab m (fun i => c (s + i))) :=
  ⟨tab_len _ _, hcm, hcap, fun x hx => by simp [tab] at hx; obtain ⟨i, hi, rfl⟩ := hx; exact hb _ (by omega), Or.inr ⟨b, o + s, rfl, fun i hi => by rw [tab_get _ hi, Nat.add_assoc]; exact hc _ (by omega)⟩⟩

theorem byte_inj {x y : Int} (hx : 0 ≤ x ∧ x ≤ 255) (hy : 0 ≤ y ∧ y ≤ 255) : UInt8.ofNat x.toNat = UInt8.ofNat y.toNat ↔ x = y := by
  constructor
  · intro h
    have := congrArg UInt8.toNat h
    simp at this
    omega
  · intro h; rw [h]
/-- Rows of bytes are alike where their texts are. -/
theorem str_eq {l m : List Int} (hl : ∀ n ∈ l, 0 ≤ n ∧ n ≤ 255) (hm : ∀ n ∈ m, 0 ≤ n ∧ n ≤ 255) : ((strOfNums l).toList == (strOfNums m).toList) = decide (l = m) := by
  rw [ByteArray.toList_eq, ByteArray.toList_eq, strOfNums_data, strOfNums_data, Bool.eq_iff_iff, beq_iff_eq, decide_eq_true_eq]
  constructor
  · intro h
    induction l generalizing m with
    | nil => cases m with
      | nil => rfl
      | cons b m => simp at h
    | cons a l ih => cases m with
      | nil => simp at h
      | cons b m =>
        simp only [List.map_cons, List.cons.injEq] at h
        rw [(byte_inj (hl a (by simp)) (hm b (by simp))).1 h.1, ih (fun n hn => hl n (by simp [hn])) (fun n hn => hm n (by simp [hn])) h.2]
  · intro h; rw [h]
theorem str_done {a b c d : Int} (ha : 0 ≤ a ∧ a ≤ 255) (hb : 0 ≤ b ∧ b ≤ 255) (hc : 0 ≤ c ∧ c ≤ 255) (hd : 0 ≤ d ∧ d ≤ 255) :
    ((strOfNums [a, b, c, d]).toList == [68, 79, 78, 69]) = decide (a = 68 ∧ b = 79 ∧ c = 78 ∧ d = 69) := by
  have := str_eq (l := [a, b, c, d]) (m := [68, 79, 78, 69]) (by simp; omega) (by simp)
  have e : (strOfNums [68, 79, 78, 69]).toList = [68, 79, 78, 69] := by rw [ByteArray.toList_eq]; rfl
  rw [e] at this
  rw [this]
  simp

theorem check_len {w : World} {a : Option Addr} {n cap : Nat} (hn : ¬ n = 68) : Calls Try.prog 21 #[.slice a n cap] w fun e w' => e = .returned (.int .i64 1) ∧ w' = w := by
  have hn' : ¬ (n : Int) = 68 := by omega
  go_enter Try.func21, Try.ntmps21
  go_wp2
  go_ret
  exact ⟨rfl, rfl⟩

theorem check_clean {w : World} {a : Option Addr} {cap : Nat} {c : Nat → Int} (hr : Row w a 68 cap (tab 68 c)) (hcl : cleanB (tab 68 c) = true) : Calls Try.prog 21 #[.slice a 68 cap] w fun e w' => e = .returned (.int .i64 4) ∧ w' = w := by
  have H := clean_any hr
  rw [hcl] at H
  go_enter Try.func21, Try.ntmps21
  go_wp2_with (go_at_call 11; refine H.mono ?_; rintro e w' ⟨rfl, rfl⟩)
  go_ret
  exact ⟨rfl, rfl⟩

theorem check_torn {w : World} {b o cap : Nat} {c : Nat → Int} (hr : Row w (some ⟨b, o, none⟩) 68 cap (tab 68 c)) (hb : ∀ i, i < 68 → 0 ≤ c i ∧ c i ≤ 255) (hc : ∀ i, i < 68 → w.cell? ⟨b, o + i, none⟩ = some (.int .u8 (c i))) (hcl : cleanB (tab 68 c) = false)
    (hm : ¬ (c 64 = 68 ∧ c 65 = 79 ∧ c 66 = 78 ∧ c 67 = 69)) : Calls Try.prog 21 #[.slice (some ⟨b, o, none⟩) 68 cap] w fun e w' => e = .returned (.int .i64 9) ∧ w' = w := by
  have H := clean_any hr
  rw [hcl] at H
  have h68 := hr.2.1
  have hcap := hr.2.2.1
  have ht := (Row.sub (cap := cap - 64) hc hb 64 4 (by omega) (by omega) (by omega)).text
  have e4 : tab 4 (fun i => c (64 + i)) = [c 64, c 65, c 66, c 67] := rfl
  rw [e4] at ht
  have hs := str_done (hb 64 (by omega)) (hb 65 (by omega)) (hb 66 (by omega)) (hb 67 (by omega))
  rw [decide_eq_false hm] at hs
  clear hm hc hb
  generalize strOfNums [c 64, c 65, c 66, c 67] = S at ht hs
  go_enter Try.func21, Try.ntmps21
  go_wp2_with (go_at_call 11; refine H.mono ?_; rintro e w' ⟨rfl, rfl⟩)
  go_ret
  exact ⟨rfl, rfl⟩

theorem check_crc {w : World} {b o cap : Nat} {c : Nat → Int} (hr : Row w (some ⟨b, o, none⟩) 68 cap (tab 68 c)) (hb : ∀ i, i < 68 → 0 ≤ c i ∧ c i ≤ 255) (hc : ∀ i, i < 68 → w.cell? ⟨b, o + i, none⟩ = some (.int .u8 (c i))) (hcl : cleanB (tab 68 c) = false)
    (hm : c 64 = 68 ∧ c 65 = 79 ∧ c 66 = 78 ∧ c 67 = 69) (hne : ¬ num (fun i => c (60 + i)) 4 = val (more 0#32 (tab 60 c))) : Calls Try.prog 21 #[.slice (some ⟨b, o, none⟩) 68 cap] w fun e w' => e = .returned (.int .i64 10) ∧ Keep (fun _ => False) w w' := by
  have H := clean_any hr
  rw [hcl] at H
  have h68 := hr.2.1
  have hcap := hr.2.2.1
  have ht := (Row.sub (cap := cap - 64) hc hb 64 4 (by omega) (by omega) (by omega)).text
  have e4 : tab 4 (fun i => c (64 + i)) = [c 64, c 65, c 66, c 67] := rfl
  rw [e4] at ht
  have hs := str_done (hb 64 (by omega)) (hb 65 (by omega)) (hb 66 (by omega)) (hb 67 (by omega))
  rw [decide_eq_true hm] at hs
  have hget := fun n => get_any (w := w.drewN n) (g := b) (o := o + 60) (len := 8) (cap := cap - 60) (d := fun i => c (60 + i)) (fun i hi => by rw [Nat.add_assoc]; exact hc _ (by omega)) (fun i hi => hb _ (by omega)) (by omega)
  have hsum := fun n => sum_any (some ⟨b, o, none⟩) 60 cap (tab 60 c) (w.drewN n) (by
    have := Row.sub (w := w.drewN n) (cap := cap) hc hb 0 60 (by omega) (by omega) (by omega)
    simpa using this)
  have h0 := hc 0 (by omega)
  have h1 := hc 1 (by omega)
  have h2 := hc 2 (by omega)
  have h3 := hc 3 (by omega)
  have b0 := hb 0 (by omega)
  rw [Nat.add_zero] at h0
  clear hm hc hb
  generalize strOfNums [c 64, c 65, c 66, c 67] = S at ht hs
  generalize num (fun i => c (60 + i)) 4 = x at hget hne
  generalize val (more 0#32 (tab 60 c)) = y at hsum hne
  go_enter Try.func21, Try.ntmps21
  go_wp2_with (go_at_call 11; refine H.mono ?_; rintro e w' ⟨rfl, rfl⟩)
  go_quiet ((first | (go_at_call 20; exact Calls.quiet_of_same (hsum _)) | (go_at_call 22; exact Calls.quiet_of_same (hget _))))
  go_wp2_with fail
  go_ret
  exact ⟨rfl, (Keep.refl _ _).drewN _⟩

theorem check_form {w : World} {b o cap : Nat} {c : Nat → Int} (hr : Row w (some ⟨b, o, none⟩) 68 cap (tab 68 c)) (hb : ∀ i, i < 68 → 0 ≤ c i ∧ c i ≤ 255) (hc : ∀ i, i < 68 → w.cell? ⟨b, o + i, none⟩ = some (.int .u8 (c i))) (hcl : cleanB (tab 68 c) = false)
    (hm : c 64 = 68 ∧ c 65 = 79 ∧ c 66 = 78 ∧ c 67 = 69) (hne : num (fun i => c (60 + i)) 4 = val (more 0#32 (tab 60 c))) : Calls Try.prog 21 #[.slice (some ⟨b, o, none⟩) 68 cap] w fun e w' => e = .returned (.int .i64 (if ¬ (1 ≤ c 0 ∧ c 0 ≤ 3 ∧ c 1 = 0 ∧ c 2 = 0 ∧ c 3 = 0) then 11 else 0)) ∧ Keep (fun _ => False) w w' := by
  have H := clean_any hr
  rw [hcl] at H
  have h68 := hr.2.1
  have hcap := hr.2.2.1
  have ht := (Row.sub (cap := cap - 64) hc hb 64 4 (by omega) (by omega) (by omega)).text
  have e4 : tab 4 (fun i => c (64 + i)) = [c 64, c 65, c 66, c 67] := rfl
  rw [e4] at ht
  have hs := str_done (hb 64 (by omega)) (hb 65 (by omega)) (hb 66 (by omega)) (hb 67 (by omega))
  rw [decide_eq_true hm] at hs
  have hget := fun n => get_any (w := w.drewN n) (g := b) (o := o + 60) (len := 8) (cap := cap - 60) (d := fun i => c (60 + i)) (fun i hi => by rw [Nat.add_assoc]; exact hc _ (by omega)) (fun i hi => hb _ (by omega)) (by omega)
  have hsum := fun n => sum_any (some ⟨b, o, none⟩) 60 cap (tab 60 c) (w.drewN n) (by
    have := Row.sub (w := w.drewN n) (cap := cap) hc hb 0 60 (by omega) (by omega) (by omega)
    simpa using this)
  have h0 := hc 0 (by omega)
  have h1 := hc 1 (by omega)
  have h2 := hc 2 (by omega)
  have h3 := hc 3 (by omega)
  have b0 := hb 0 (by omega)
  rw [Nat.add_zero] at h0
  clear hm hc hb
  generalize strOfNums [c 64, c 65, c 66, c 67] = S at ht hs
  rw [hne] at hget
  clear hne
  generalize val (more 0#32 (tab 60 c)) = y at hsum hget
  generalize c 0 = c0 at *
  generalize c 1 = c1 at *
  generalize c 2 = c2 at *
  generalize c 3 = c3 at *
  have hk := fun n => known_any c0 (w.drewN n)
  by_cases k0 : 1 ≤ c0 ∧ c0 ≤ 3
  · simp only [decide_eq_true k0] at hk
    by_cases k1 : c1 = 0
    · by_cases k2 : c2 = 0
      · by_cases k3 : c3 = 0
        · rw [if_neg (by omega)]
          subst k1 k2 k3
          clear k0
          go_enter Try.func21, Try.ntmps21
          go_wp2_with (go_at_call 11; refine H.mono ?_; rintro e w' ⟨rfl, rfl⟩)
          go_quiet ((first | (go_at_call 20; exact Calls.quiet_of_same (hsum _)) | (go_at_call 22; exact Calls.quiet_of_same (hget _))))
          go_wp2_with (go_at_call 18; refine (hk _).mono ?_; rintro e w' ⟨rfl, rfl⟩)
          go_ret
          exact ⟨rfl, (Keep.refl _ _).drewN _⟩
        · rw [if_pos (by omega)]
          subst k1 k2
          clear k0
          go_enter Try.func21, Try.ntmps21
          go_wp2_with (go_at_call 11; refine H.mono ?_; rintro e w' ⟨rfl, rfl⟩)
          go_quiet ((first | (go_at_call 20; exact Calls.quiet_of_same (hsum _)) | (go_at_call 22; exact Calls.quiet_of_same (hget _))))
          go_wp2_with (go_at_call 18; refine (hk _).mono ?_; rintro e w' ⟨rfl, rfl⟩)
          go_ret
          exact ⟨rfl, (Keep.refl _ _).drewN _⟩
      · rw [if_pos (by omega)]
        subst k1
        clear k0
        go_enter Try.func21, Try.ntmps21
        go_wp2_with (go_at_call 11; refine H.mono ?_; rintro e w' ⟨rfl, rfl⟩)
        go_quiet ((first | (go_at_call 20; exact Calls.quiet_of_same (hsum _)) | (go_at_call 22; exact Calls.quiet_of_same (hget _))))
        go_wp2_with (go_at_call 18; refine (hk _).mono ?_; rintro e w' ⟨rfl, rfl⟩)
        go_ret
        exact ⟨rfl, (Keep.refl _ _).drewN _⟩
    · rw [if_pos (by omega)]
      clear k0
      go_enter Try.func21, Try.ntmps21
      go_wp2_with (go_at_call 11; refine H.mono ?_; rintro e w' ⟨rfl, rfl⟩)
      go_quiet ((first | (go_at_call 20; exact Calls.quiet_of_same (hsum _)) | (go_at_call 22; exact Calls.quiet_of_same (hget _))))
      go_wp2_with (go_at_call 18; refine (hk _).mono ?_; rintro e w' ⟨rfl, rfl⟩)
      go_ret
      exact ⟨rfl, (Keep.refl _ _).drewN _⟩
  · simp only [decide_eq_false k0] at hk
    rw [if_pos (by omega)]
    clear k0
    go_enter Try.func21, Try.ntmps21
    go_wp2_with (go_at_call 11; refine H.mono ?_; rintro e w' ⟨rfl, rfl⟩)
    go_quiet ((first | (go_at_call 20; exact Calls.quiet_of_same (hsum _)) | (go_at_call 22; exact Calls.quiet_of_same (hget _))))
    go_wp2_with (go_at_call 18; refine (hk _).mono ?_; rintro e w' ⟨rfl, rfl⟩)
    go_ret
    exact ⟨rfl, (Keep.refl _ _).drewN _⟩

theorem Row.bd {w : World} {a : Option Addr} {n cap : Nat} {c : Nat → Int} (h : Row w a n cap (tab n c)) (i : Nat) (hi : i < n) : 0 ≤ c i ∧ c i ≤ 255 := by
  have := getD_bound h.2.2.2.1 i
  rwa [tab_get c hi] at this

theorem check_any {w : World} {a : Option Addr} {n cap : Nat} {c : Nat → Int} (hr : Row w a n cap (tab n c)) : Calls Try.prog 21 #[.slice a n cap] w fun e w' => e = .returned (.int .i64 (dcode n c)) ∧ Keep (fun _ => False) w w' := by
  by_cases hn : n = 68
  · subst hn
    by_cases hcl : cleanB (tab 68 c) = true
    · refine (check_clean hr hcl).mono ?_
      rintro e w' ⟨rfl, rfl⟩
      exact ⟨by rw [dcode, if_neg (fun h => h rfl), if_pos hcl], Keep.refl _ _⟩
    · have hcl' : cleanB (tab 68 c) = false := by simpa using hcl
      have hb := hr.bd
      obtain ⟨b, o, rfl, hc⟩ := hr.cells (by omega)
      by_cases hm : c 64 = 68 ∧ c 65 = 79 ∧ c 66 = 78 ∧ c 67 = 69
      · by_cases hne : num (fun i => c (60 + i)) 4 = val (more 0#32 (tab 60 c))
        · refine (check_form hr hb hc hcl' hm hne).mono ?_
          rintro e w' ⟨rfl, hk⟩
          have e : dcode 68 c = (if ¬ (1 ≤ c 0 ∧ c 0 ≤ 3 ∧ c 1 = 0 ∧ c 2 = 0 ∧ c 3 = 0) then 11 else 0) := by unfold dcode; rw [if_neg (fun h => h rfl), if_neg hcl, if_neg (not_not_intro hm), if_neg (not_not_intro hne)]
          exact ⟨by rw [e], hk⟩
        · refine (check_crc hr hb hc hcl' hm hne).mono ?_
          rintro e w' ⟨rfl, hk⟩
          exact ⟨by rw [dcode, if_neg (fun h => h rfl), if_neg hcl, if_neg (not_not_intro hm), if_pos hne], hk⟩
      · refine (check_torn hr hb hc hcl' hm).mono ?_
        rintro e w' ⟨rfl, rfl⟩
        exact ⟨by rw [dcode, if_neg (fun h => h rfl), if_neg hcl, if_pos hm], Keep.refl _ _⟩
  · refine (check_len hn).mono ?_
    rintro e w' ⟨rfl, rfl⟩
    exact ⟨by rw [dcode, if_pos hn], Keep.refl _ _⟩
end Tg
end Go.Proofs.Ytgohmjidbbecpaa
