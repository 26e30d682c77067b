/-
  Streams that go on by turns; StreamRuns' body.
-/
import Derived.Test.YthfbfepaoknmfaaPh
namespace Go.Proofs.Ythfbfepaoknmfaa
open Go.ChangeShapes Go.WideShapes Go.ChangeAt Go.RowKit
namespace Tg
/-- The streams ahead of the i-th command of the turn t (A: t times the step). -/
structure Tn (s : St) (n t i : Nat) (A c : Int) : Prop where
  ok : s.Ok n
  ex : ∀ j, j < n → s.ex.getD j 0 = if j < i then 100000 * (j : Int) + (A + c) else if t = 0 then -1 else 100000 * (j : Int) + A
  lg : ∀ j, j < n → s.lg.getD j 0 = if j < i then (t : Int) + 1 else (t : Int)
  od : s.od = (List.range n).drop i ++ (List.range n).take i
theorem tn_new {n : Nat} (h : 1 ≤ n) (c : Int) : Tn (St.new n) n 0 0 0 c := by
  refine ⟨new_okS h, fun j hj => ?_, fun j hj => ?_, by simp [St.new]⟩
  · rw [if_neg (by omega), if_pos rfl]
    simp [St.new, hj]
  · rw [if_neg (by omega)]
    unfold St.new
    simp only
    rw [getD_rep]; rfl
theorem Tn.turn {s : St} {n t : Nat} {A c : Int} (h : Tn s n t n A c) : Tn s n (t + 1) 0 (A + c) c := by
  refine ⟨h.ok, fun j hj => ?_, fun j hj => ?_, ?_⟩
  · rw [h.ex j hj, if_pos hj, if_neg (by omega), if_neg (by omega)]
  · rw [h.lg j hj, if_pos hj, if_neg (by omega)]; omega
  · rw [h.od]; simp
theorem drop_range {n i : Nat} (h : i < n) : (List.range n).drop i = i :: (List.range n).drop (i + 1) := by
  rw [List.drop_eq_getElem_cons (by simpa using h), List.getElem_range]
theorem Tn.pos {s : St} {n t i : Nat} {A c : Int} (h : Tn s n t i A c) (hi : i < n) (hA : 0 ≤ A ∧ A ≤ 5000) (hc : 1 ≤ c ∧ c ≤ 100) : s.pos (100000 * (i : Int) + A) = i ∧ s.len (100000 * (i : Int) + A) = (t : Int) + 1 := by
  have h0 : s.od.getD 0 0 = i := by rw [h.od, drop_range hi]; rfl
  have hl := h.ok.odl
  have hpa := pos_at (s := s) (lba := 100000 * (i : Int) + A) (k := 0) (by omega) (fun j h1 h2 e => ?_) (Or.inl rfl)
  · rw [h0] at hpa
    have hg : s.ex[i]? = some (s.ex.getD i 0) := get_of (by rw [h.ok.ex]; exact hi)
    have hx : s.ex.getD i 0 = if t = 0 then -1 else 100000 * (i : Int) + A := by rw [h.ex i hi, if_neg (Nat.lt_irrefl i)]
    have hy : s.lg.getD i 0 = (t : Int) := by rw [h.lg i hi, if_neg (Nat.lt_irrefl i)]
    rw [hg, hx, hy] at hpa
    refine ⟨hpa.1, ?_⟩
    rw [hpa.2]
    by_cases e : t = 0
    · rw [if_pos e, if_neg (by intro x; injection x with x; omega)]; omega
    · rw [if_neg e, if_pos rfl]
  · have hj := h.ok.od_lt (i := j) (by omega)
    have hne : s.od.getD j 0 ≠ i := fun e2 => by
      have hnd := h.ok.nd
      have g1 := getN (l := s.od) (i := j) h2
      have g0 := getN (l := s.od) (i := 0) (by omega)
      rw [e2] at g1
      rw [h0] at g0
      have := (List.getElem?_inj (by omega) hnd).1 (g1.trans g0.symm)
      omega
    have hg : s.ex[s.od.getD j 0]? = some (s.ex.getD (s.od.getD j 0) 0) := get_of (by rw [h.ok.ex]; exact hj)
    generalize s.od.getD j 0 = q at *
    rw [hg, h.ex q hj] at e
    injection e with e
    split at e
    · omega
    · split at e <;> omega
theorem Tn.feed {s : St} {n t i : Nat} {A c : Int} (h : Tn s n t i A c) (hi : i < n) (hA : 0 ≤ A ∧ A ≤ 5000) (hc : 1 ≤ c ∧ c ≤ 100) : Tn (s.feed (100000 * (i : Int) + A) c) n t (i + 1) A c := by
  obtain ⟨hp, hl⟩ := h.pos hi hA hc
  refine ⟨h.ok.feed _ _, fun j hj => ?_, fun j hj => ?_, ?_⟩
  · unfold St.feed
    simp only
    rw [hp, getD_set _ _ _ _ (by rw [h.ok.ex]; exact hi), h.ex j hj]
    by_cases e : j = i
    · rw [if_pos e, if_pos (by omega)]; subst e; omega
    · rw [if_neg e]
      by_cases e2 : j < i
      · rw [if_pos e2, if_pos (show j < i + 1 by omega)]
      · rw [if_neg e2, if_neg (show ¬ j < i + 1 by omega)]
  · unfold St.feed
    simp only
    rw [hp, hl, getD_set _ _ _ _ (by rw [h.ok.lg]; exact hi), h.lg j hj]
    by_cases e : j = i
    · rw [if_pos e, if_pos (by omega)]
    · rw [if_neg e]
      by_cases e2 : j < i
      · rw [if_pos e2, if_pos (show j < i + 1 by omega)]
      · rw [if_neg e2, if_neg (show ¬ j < i + 1 by omega)]
  · unfold St.feed
    simp only
    rw [hp, h.od, drop_range hi, List.cons_append, List.erase_cons_head, List.append_assoc, List.take_add_one, List.getElem?_range hi]
    rfl
/-- Both beside each other. -/
def RunI (w wx : World) (p g h n t i : Nat) (A c : Int) : Prop := ∃ s, Dt w wx p g h n s ∧ Tn s n t i A c
theorem RunI.turn {w wx : World} {p g h n t : Nat} {A c : Int} (r : RunI w wx p g h n t n A c) : RunI w wx p g h n (t + 1) 0 (A + c) c := by
  obtain ⟨s, d, k⟩ := r
  exact ⟨s, d, k.turn⟩
theorem RunI.feed {w wx : World} {p g h n t i : Nat} {A c : Int} (r : RunI w wx p g h n t i A c) (hn : n ≤ 16) (hi : i < n) (ht : t ≤ 1000) (hA : 0 ≤ A ∧ A ≤ 5000) (hc : 1 ≤ c ∧ c ≤ 100) :
    Calls Try.prog 9 #[.pointer (some ⟨p, 0, none⟩), .int .i64 (100000 * (i : Int) + A), .int .i64 c] wx fun e w' => e = .returned (.tuple #[.int .i64 (i : Int), .int .i64 0]) ∧ RunI w w' p g h n t (i + 1) A c := by
  obtain ⟨s, d, k⟩ := r
  have hf := feed_ok d hn (fun j => by
    by_cases hj : j < n
    · rw [k.lg j hj]; split <;> omega
    · rw [List.getD_eq_getElem?_getD, List.getElem?_eq_none (by rw [k.ok.lg]; omega)]; simp) (lba := 100000 * (i : Int) + A) (m := c) (by omega)
  rw [(k.pos hi hA hc).1] at hf
  exact hf.mono (by rintro e w' ⟨rfl, d', -⟩; exact ⟨rfl, _, d', k.feed hi hA hc⟩)
theorem RunI.long {w wx : World} {p g h n t i : Nat} {A c : Int} (r : RunI w wx p g h n t (i + 1) A c) (hi : i < n) :
    Calls Try.prog 10 #[.pointer (some ⟨p, 0, none⟩), .int .i64 (i : Int)] wx fun e w' => e = .returned (.tuple #[.int .i64 ((t : Int) + 1), .int .i64 0]) ∧ w' = wx := by
  obtain ⟨s, d, k⟩ := r
  have hl := long_ok d hi
  rw [k.lg i hi, if_pos (by omega)] at hl
  exact hl
theorem RunI.keep {w wx : World} {p g h n t i : Nat} {A c : Int} (r : RunI w wx p g h n t i A c) : Keep (fun _ => False) w wx := by
  obtain ⟨s, d, -⟩ := r
  exact d.keep
set_option maxRecDepth 100000 in
set_option maxHeartbeats 1000000 in
theorem runs_no {n t c : Int} (h : n < 1 ∨ 16 < n ∨ t < 1 ∨ 50 < t ∨ c < 1 ∨ 100 < c) (w : World) : Calls Try.prog 5 #[.int .i64 n, .int .i64 t, .int .i64 c] w fun e w' => e = .returned (.bool true) ∧ Keep (fun _ => False) w w' := by
  have haw := awake_any w
  go_enter Try.func5, Try.ntmps5
  go_wp2_with fail
  refine haw.mono ?_
  rintro e w1 ⟨rfl, K1⟩
  clear haw
  by_cases h1 : n < 1
  · clear h
    go_wp2_with fail
    go_ret
    exact ⟨rfl, K1⟩
  · by_cases h2 : 16 < n
    · clear h
      go_wp2_with fail
      go_ret
      exact ⟨rfl, K1⟩
    · by_cases h3 : t < 1
      · clear h
        go_wp2_with fail
        go_ret
        exact ⟨rfl, K1⟩
      · by_cases h4 : 50 < t
        · clear h
          go_wp2_with fail
          go_ret
          exact ⟨rfl, K1⟩
        · by_cases h5 : c < 1
          · clear h
            go_wp2_with fail
            go_ret
            exact ⟨rfl, K1⟩
          · have h6 : 100 < c := by omega
            clear h
            go_wp2_with fail
            go_ret
            exact ⟨rfl, K1⟩
set_option maxRecDepth 100000 in
set_option maxHeartbeats 2000000 in
theorem runs_yes {n T c : Nat} (hn : 1 ≤ n ∧ n ≤ 16) (hT : 1 ≤ T ∧ T ≤ 50) (hc : 1 ≤ c ∧ c ≤ 100) (w : World) : Calls Try.prog 5 #[.int .i64 (n : Int), .int .i64 (T : Int), .int .i64 (c : Int)] w fun e w' => e = .returned (.bool true) ∧ Keep (fun _ => False) w w' := by
  have haw := awake_any w
  have d1 : ¬ (n : Int) < 1 := by omega
  have d2 : ¬ (16 : Int) < (n : Int) := by omega
  have d3 : ¬ (T : Int) < 1 := by omega
  have d4 : ¬ (50 : Int) < (T : Int) := by omega
  have d5 : ¬ (c : Int) < 1 := by omega
  have d6 : ¬ (100 : Int) < (c : Int) := by omega
  go_enter Try.func5, Try.ntmps5
  go_wp2_with fail
  refine haw.mono ?_
  rintro e w1 ⟨rfl, K1⟩
  have hnew := new_ok (w := w1) (n := n) hn.1 hn.2
  clear haw
  go_wp2_with fail
  refine hnew.mono ?_
  rintro e w2 ⟨p, g, h, rfl, D⟩
  have R0 : RunI w1 w2 p g h n 0 0 0 c := ⟨_, D, tn_new hn.1 c⟩
  clear hnew D
  have hn' : Hid (1 ≤ n ∧ n ≤ 16) := hn
  have hT' : Hid (1 ≤ T ∧ T ≤ 50) := hT
  have hc' : Hid (1 ≤ c ∧ c ≤ 100) := hc
  clear hn hT hc
  go_wp2_with fail
  go_loopw [9, 10, 11, 12, 13, 14] (fun tv _ _ _ _ _ wx => ∃ t : Nat, t ≤ T ∧ tv = .int .i64 (t : Int) ∧ RunI w1 wx p g h n t 0 ((t * c : Nat) : Int) c) (fun tv _ _ _ _ _ _ => T - (intOf tv).toNat)
  case atStart => exact ⟨0, by omega, rfl, by rw [Nat.zero_mul]; exact R0⟩
  case round =>
    clear R0
    obtain ⟨t, ht, rfl, R⟩ := hrel
    obtain ⟨hT1, hT2⟩ : 1 ≤ T ∧ T ≤ 50 := hT'
    obtain ⟨hc1, hc2⟩ : 1 ≤ c ∧ c ≤ 100 := hc'
    by_cases hlt : t < T
    · have dt : (t : Int) < (T : Int) := by omega
      have dwt := wrapI (x := (t : Int) + 1) (by omega) (by omega)
      have hb : t * c ≤ 49 * 100 := Nat.mul_le_mul (by omega) (by omega)
      have hAc : Hid (((t + 1) * c : Nat) = t * c + c) := by show _ = _; rw [Nat.add_mul, Nat.one_mul]
      have dwm : IntKind.i64.wrap ((t : Int) * (c : Int)) = ((t * c : Nat) : Int) := by rw [← Int.natCast_mul]; exact wrapI (by omega) (by omega)
      have hlt' : Hid (t < T) := hlt
      have hc' : Hid (1 ≤ c ∧ c ≤ 100) := ⟨hc1, hc2⟩
      have hT' : Hid (1 ≤ T ∧ T ≤ 50) := ⟨hT1, hT2⟩
      generalize t * c = A at R hb hAc dwm
      clear hlt hT1 hT2 hc1 hc2 ht
      go_wp2_with fail
      go_loopw [10, 11, 12, 13, 14] (fun iv _ _ _ _ wx => ∃ i : Nat, i ≤ n ∧ iv = .int .i64 (i : Int) ∧ RunI w1 wx p g h n t i (A : Int) c) (fun iv _ _ _ _ _ => n - (intOf iv).toNat)
      case atStart => exact ⟨0, by omega, rfl, R⟩
      case round =>
        clear R
        obtain ⟨i, hi, rfl, R⟩ := hrel
        by_cases hli : i < n
        · have di : (i : Int) < (n : Int) := by omega
          obtain ⟨hn1, hn2⟩ : 1 ≤ n ∧ n ≤ 16 := hn'
          have dwi := wrapI (x := (i : Int) + 1) (by omega) (by omega)
          have dw1 := wrapI (x := 100000 * (i : Int)) (by omega) (by omega)
          have dw2 := wrapI (x := 100000 * (i : Int) + (A : Int)) (by omega) (by omega)
          have hf := R.feed hn2 hli (by have : t < T := hlt'; have : 1 ≤ T ∧ T ≤ 50 := hT'; omega) (by omega) (by have : 1 ≤ c ∧ c ≤ 100 := hc'; omega)
          have hli' : Hid (i < n) := hli
          clear R hli hi hn1 hn2 hb
          go_wp2_with fail
          refine hf.mono ?_
          rintro e w3 ⟨rfl, R3⟩
          have hl := R3.long hli'
          clear hf
          go_wp2_with fail
          refine hl.mono ?_
          rintro e wz ⟨rfl, e0⟩
          have e0 := e0.symm
          subst e0
          clear hl
          go_wp2_with fail
          go_roundw
          case rel => exact ⟨i + 1, hli', by go_num, R3⟩
          case measure => have : i < n := hli'; simp [intOf]; omega
        · have di : ¬ (i : Int) < (n : Int) := by omega
          obtain rfl : i = n := by omega
          have R2 := R.turn
          clear R hli hb hi
          go_wp2_with fail
          go_roundw
          case rel => exact ⟨t + 1, hlt', by go_num, by rw [show (t + 1) * c = A + c from hAc]; exact R2⟩
          case measure => have : t < T := hlt'; simp [intOf]; omega
    · have dt : ¬ (t : Int) < (T : Int) := by omega
      have K2 := K1.trans R.keep
      clear R hlt ht hT1 hT2 hc1 hc2
      go_wp2_with fail
      go_ret
      exact ⟨rfl, K2⟩
theorem runs_law {n t c : Int} (w : World) : Calls Try.prog 5 #[.int .i64 n, .int .i64 t, .int .i64 c] w fun e w' => e = .returned (.bool true) ∧ Keep (fun _ => False) w w' := by
  by_cases h : n < 1 ∨ 16 < n ∨ t < 1 ∨ 50 < t ∨ c < 1 ∨ 100 < c
  · exact runs_no h w
  · have := runs_yes (n := n.toNat) (T := t.toNat) (c := c.toNat) (by omega) (by omega) (by omega) w
    rwa [show (n.toNat : Int) = n by omega, show (t.toNat : Int) = t by omega, show (c.toNat : Int) = c by omega] at this
end Tg
end Go.Proofs.Ythfbfepaoknmfaa
