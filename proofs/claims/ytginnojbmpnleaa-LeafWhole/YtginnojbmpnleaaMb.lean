/-
  The program's Pages, known; cmp.Compare and cmp.Or at the types that are asked.
-/
import Derived.Test.YtginnojbmpnleaaLr
import Derived.Sort.Grow
namespace Go.Proofs.Ytginnojbmpnleaa
open Go.ChangeShapes Go.WideShapes Go.ChangeAt Go.RowKit
namespace Tg
theorem pages_any (n : Int) (w : World) : Calls Try.prog 10 #[.int .i64 n] w fun e w' => e = .returned (.int .i64 (npI n)) ∧ w' = w := by
  unfold npI
  by_cases h1 : n < 0
  · rw [if_pos (Or.inl h1)]
    go_enter Try.func10, Try.ntmps10
    go_wp2_with fail
    go_ret
    exact ⟨rfl, rfl⟩
  · by_cases h2 : 65536 < n
    · rw [if_pos (Or.inr h2)]
      go_enter Try.func10, Try.ntmps10
      go_wp2_with fail
      go_ret
      exact ⟨rfl, rfl⟩
    · rw [if_neg (by omega)]
      have f1 : IntKind.i64.wrap (n + 32) = n + 32 := by rw [IntKind.wrap_i64]; omega
      have f2 : IntKind.i64.wrap (n + 32 - 1) = n + 32 - 1 := by rw [IntKind.wrap_i64]; omega
      have f3 : (n + 32 - 1).tdiv 32 = (n + 32 - 1) / 32 := Int.tdiv_eq_ediv_of_nonneg (by omega)
      have f4 : IntKind.i64.wrap ((n + 32 - 1) / 32) = (n + 32 - 1) / 32 := by rw [IntKind.wrap_i64]; omega
      by_cases h3 : n = 0
      · subst h3
        go_enter Try.func10, Try.ntmps10
        go_wp2_with fail
        go_ret
        exact ⟨rfl, rfl⟩
      · have e : (npg n.toNat : Int) = (n + 32 - 1) / 32 := by
          unfold npg
          rw [if_neg (by omega)]
          omega
        have e1 : 1 ≤ (n + 32 - 1) / 32 := by omega
        rw [e]
        clear e
        generalize hQ : (n + 32 - 1) / 32 = Q at f3 f4 e1
        go_enter Try.func10, Try.ntmps10
        go_wp2_with fail
        · go_ret
          exact ⟨rfl, rfl⟩
        · go_ret
          exact ⟨by rw [show Q = 1 by omega]; rfl, rfl⟩
/-- Is it a kind of streams? -/
def knB (k : Int) : Bool := decide (k = 2 ∨ k = 3)
theorem known_any (k : Int) (w : World) : Calls Try.prog 18 #[.int .i64 k] w fun e w' => e = .returned (.bool (knB k)) ∧ w' = w := by
  unfold knB
  by_cases h1 : k = 2
  · subst h1
    go_enter Try.func18, Try.ntmps18
    go_wp2_with fail
    go_ret
    exact ⟨rfl, rfl⟩
  · by_cases h2 : k = 3
    · subst h2
      go_enter Try.func18, Try.ntmps18
      go_wp2_with fail
      go_ret
      exact ⟨rfl, rfl⟩
    · rw [decide_eq_false (by omega)]
      go_enter Try.func18, Try.ntmps18
      go_wp2_with fail
      go_ret
      exact ⟨by simp [*], rfl⟩
theorem nan35 (x : Int) (w : World) : Calls Try.prog 35 #[.int .u32 x] w fun e w' => e = .returned (.bool false) ∧ w' = w := by
  go_enter Try.func35, Try.ntmps35
  go_wp2_with fail
  go_ret
  exact ⟨by simp, rfl⟩
theorem nan46 (x : Int) (w : World) : Calls Try.prog 46 #[.int .i64 x] w fun e w' => e = .returned (.bool false) ∧ w' = w := by
  go_enter Try.func46, Try.ntmps46
  go_wp2_with fail
  go_ret
  exact ⟨by simp, rfl⟩
/-- Which of two is less. -/
def cpI (x y : Int) : Int := if x < y then -1 else if y < x then 1 else 0
theorem compare29 (x y : Int) (w : World) : Calls Try.prog 29 #[.int .u32 x, .int .u32 y] w fun e w' => e = .returned (.int .i64 (cpI x y)) ∧ w' = w := by
  unfold cpI
  by_cases h1 : x < y
  · rw [if_pos h1]
    go_enter Try.func29, Try.ntmps29
    go_wp2_with (go_at_call 35; refine (nan35 _ _).mono ?_; rintro e w' ⟨rfl, rfl⟩)
    go_ret
    exact ⟨rfl, rfl⟩
  · rw [if_neg h1]
    by_cases h2 : y < x
    · rw [if_pos h2]
      go_enter Try.func29, Try.ntmps29
      go_wp2_with (go_at_call 35; refine (nan35 _ _).mono ?_; rintro e w' ⟨rfl, rfl⟩)
      go_ret
      exact ⟨rfl, rfl⟩
    · rw [if_neg h2]
      go_enter Try.func29, Try.ntmps29
      go_wp2_with (go_at_call 35; refine (nan35 _ _).mono ?_; rintro e w' ⟨rfl, rfl⟩)
      go_ret
      exact ⟨rfl, rfl⟩
theorem compare34 (x y : Int) (w : World) : Calls Try.prog 34 #[.int .i64 x, .int .i64 y] w fun e w' => e = .returned (.int .i64 (cpI x y)) ∧ w' = w := by
  unfold cpI
  by_cases h1 : x < y
  · rw [if_pos h1]
    go_enter Try.func34, Try.ntmps34
    go_wp2_with (go_at_call 46; refine (nan46 _ _).mono ?_; rintro e w' ⟨rfl, rfl⟩)
    go_ret
    exact ⟨rfl, rfl⟩
  · rw [if_neg h1]
    by_cases h2 : y < x
    · rw [if_pos h2]
      go_enter Try.func34, Try.ntmps34
      go_wp2_with (go_at_call 46; refine (nan46 _ _).mono ?_; rintro e w' ⟨rfl, rfl⟩)
      go_ret
      exact ⟨rfl, rfl⟩
    · rw [if_neg h2]
      go_enter Try.func34, Try.ntmps34
      go_wp2_with (go_at_call 46; refine (nan46 _ _).mono ?_; rintro e w' ⟨rfl, rfl⟩)
      go_ret
      exact ⟨rfl, rfl⟩
/-- The first that is not 0. -/
def orI : List Int → Int
  | [] => 0
  | x :: l => if x = 0 then orI l else x
theorem or_any {w : World} {b : Nat} {l : List Int} (hl : l.length ≤ 1000) (h : ∀ i, i < l.length → w.cell? ⟨b, i, none⟩ = some (.int .i64 (l.getD i 0))) :
    Calls Try.prog 27 #[.slice (some ⟨b, 0, none⟩) l.length l.length] w fun e w' => e = .returned (.int .i64 (orI l)) ∧ w' = w := by
  obtain ⟨n, hn⟩ : ∃ n : Nat, n = l.length := ⟨_, rfl⟩
  rw [← hn] at h hl ⊢
  go_enter Try.func27, Try.ntmps27
  go_wp2_with fail
  go_loop [8] (fun v => ∃ i : Nat, i ≤ n ∧ v = .int .i64 (i : Int) ∧ Hid (orI l = orI (l.drop i))) (fun v => n - (intOf v).toNat)
  case atStart => exact ⟨0, by omega, rfl, rfl⟩
  case round =>
    obtain ⟨i, hi, rfl, ho⟩ := hrel
    by_cases hlt : i < n
    · have di : (i : Int) < (n : Int) := by omega
      have c := h i hlt
      have dw := wrapI (x := (i : Int) + 1) (by omega) (by omega)
      have hd : l.drop i = l.getD i 0 :: l.drop (i + 1) := by
        rw [List.drop_eq_getElem_cons (by omega)]
        congr 1
        simp [List.getD, show i < l.length by omega]
      have ho2 : orI l = if l.getD i 0 = 0 then orI (l.drop (i + 1)) else l.getD i 0 := by
        have h1 : orI l = orI (l.drop i) := ho
        rw [hd] at h1
        exact h1
      clear ho hd h
      generalize l.getD i 0 = x at c ho2
      by_cases hx : x = 0
      · rw [if_pos hx] at ho2
        have ho3 : Hid (orI l = orI (l.drop (i + 1))) := ho2
        clear ho2
        subst hx
        go_wp2_with fail
        go_round
        case rel => exact ⟨i + 1, hlt, by go_num, ho3⟩
        case measure => simp [intOf]; omega
      · rw [if_neg hx] at ho2
        have ho3 : Hid (orI l = x) := ho2
        clear ho2
        go_wp2_with fail
        go_ret
        exact ⟨by rw [show orI l = x from ho3]; rfl, rfl⟩
    · have e : orI l = 0 := by
        have h1 : orI l = orI (l.drop i) := ho
        rw [h1, List.drop_of_length_le (by omega)]
        rfl
      rw [e]
      have di : ¬ (i : Int) < (n : Int) := by omega
      clear ho h
      go_wp2_with fail
      go_ret
      exact ⟨rfl, rfl⟩
end Tg
end Go.Proofs.Ytginnojbmpnleaa
