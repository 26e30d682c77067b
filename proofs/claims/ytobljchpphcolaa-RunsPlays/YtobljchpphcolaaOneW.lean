/-
  What the statements' one, and the document's own Right and Same, do.
-/
import Derived.Test.YtobljchpphcolaaActs
namespace Go.Proofs.Ytobljchpphcolaa
open Go.ChangeShapes Go.WideShapes Go.ChangeAt Go.RowKit
namespace Tg

set_option maxRecDepth 100000 in
theorem right9 (w : World) (cap lba n : Int) (hc : cap ≤ 9223372036854775807) :
    Calls Try.prog 22 #[.int .i64 cap, .int .i64 lba, .int .i64 n] w fun e w' => e = .returned (.bool (okR cap lba n)) ∧ w' = w := by
  unfold okR
  by_cases h1 : 1 ≤ n
  · by_cases h2 : n ≤ cap
    · by_cases h3 : 0 ≤ lba
      · have dw := wrapI (x := cap - n) (by omega) (by omega)
        go_enter Try.func22, Try.ntmps22
        go_wp2_with fail
        go_ret
        refine ⟨?_, rfl⟩
        have e : decide (lba ≤ cap - n) = decide (n ≤ cap - lba) := decide_eq_decide.2 (by omega)
        simp [h1, h3, e]
      · go_enter Try.func22, Try.ntmps22
        go_wp2_with fail
        go_ret
        exact ⟨by simp; intros; omega, rfl⟩
    · go_enter Try.func22, Try.ntmps22
      go_wp2_with fail
      go_ret
      exact ⟨by simp; intros; omega, rfl⟩
  · go_enter Try.func22, Try.ntmps22
    go_wp2_with fail
    go_ret
    exact ⟨by simp; intros; omega, rfl⟩

/-- Are two lists of runs the same? -/
def sameL : List Rn → List Rn → Bool
  | [], [] => true
  | x :: a, y :: b => (x.lba == y.lba && (x.len == y.len && x.phys == y.phys)) && sameL a b
  | [], _ :: _ => false
  | _ :: _, [] => false
theorem rn_eq {x y : Rn} : (x.lba == y.lba && (x.len == y.len && x.phys == y.phys)) = true ↔ x = y := by
  cases x; cases y; simp
theorem sameL_iff : ∀ {a b : List Rn}, sameL a b = true ↔ a = b
  | [], [] => by simp [sameL]
  | [], y :: b => by simp [sameL]
  | x :: a, [] => by simp [sameL]
  | x :: a, y :: b => by
    rw [sameL, Bool.and_eq_true, rn_eq, sameL_iff, List.cons.injEq]
theorem sameL_take {a b : List Rn} {i : Nat} (hl : a.length = b.length) (h : a.take i = b.take i) (hi : i = a.length) : a = b := by
  rwa [List.take_of_length_le (by omega), List.take_of_length_le (by omega)] at h

set_option maxRecDepth 100000 in
set_option maxHeartbeats 1000000 in
theorem same9 {w : World} {a1 a2 : Option Addr} {c1 c2 : Nat} {m1 m2 : List Rn} (h1 : Rs w a1 c1 m1) (h2 : Rs w a2 c2 m2) (hl1 : m1.length ≤ 100000) :
    Calls Try.prog 18 #[.slice a1 m1.length c1, .slice a2 m2.length c2] w fun e w' => e = .returned (.bool (sameL m1 m2)) ∧ Keep (fun _ => False) w w' := by
  have K0 := Keep.refl (fun _ => False) w
  have hc1 := h1.1
  have hc2 := h2.1
  by_cases hl : m1.length = m2.length
  · have hb : ((m1.length : Int) != (m2.length : Int)) = false := by simp [hl]
    have hl' : Hid (m1.length = m2.length) := hl
    have hl1' : (m1.length : Int) ≤ 100000 := by omega
    have hm2 : (m2.length : Int) = (m1.length : Int) := by omega
    have hm2' : Hid ((m2.length : Int) = (m1.length : Int)) := hm2
    clear hl hl1 hm2
    go_enter Try.func18, Try.ntmps18
    go_wp2_with fail
    go_loopw [5] (fun v wx => ∃ i : Nat, i ≤ m1.length ∧ v = .int .i64 (i : Int) ∧ Hid (m1.take i = m2.take i) ∧ Keep (fun _ => False) w wx) (fun v _ => m1.length - (intOf v).toNat)
    case atStart => exact ⟨0, by omega, rfl, by show m1.take 0 = m2.take 0; simp, K0⟩
    case round =>
      obtain ⟨i, hi, rfl, hI, k1⟩ := hrel
      by_cases hlt : i < m1.length
      · have hlt2 : i < m2.length := by have := show m1.length = m2.length from hl'; omega
        obtain ⟨x, hx⟩ := get_rn hlt
        obtain ⟨y, hy⟩ := get_rn hlt2
        obtain ⟨g1, rfl, e0, e1, e2⟩ := (h1.more k1).at hx
        obtain ⟨g2, rfl, f0, f1, f2⟩ := (h2.more k1).at hy
        have di : (i : Int) < (m1.length : Int) := by omega
        have di2 : (i : Int) < (m2.length : Int) := by omega
        have dw := wrapI (x := (i : Int) + 1) (by omega) (by omega)
        have hlt' : Hid (i < m1.length) := hlt
        have t1 : Hid (m1.take (i + 1) = m1.take i ++ [x]) := take_next hx
        have t2 : Hid (m2.take (i + 1) = m2.take i ++ [y]) := take_next hy
        by_cases e : x = y
        · subst e
          have hI2 : Hid (m1.take (i + 1) = m2.take (i + 1)) := by
            show m1.take (i + 1) = m2.take (i + 1)
            rw [show m1.take (i + 1) = _ from t1, show m2.take (i + 1) = _ from t2, show m1.take i = m2.take i from hI]
          clear hx hy hlt hlt2 hI t1 t2
          go_wp2_with fail
          go_quiet (fail)
          go_wp2_with fail
          go_roundw
          case rel => exact ⟨i + 1, hlt', by go_num, hI2, k1.drewN _⟩
          case measure => have : i < m1.length := hlt'; simp [intOf]; omega
        · have hne : Hid (sameL m1 m2 = false) := by
            show sameL m1 m2 = false
            rw [Bool.eq_false_iff]
            intro hs
            have := sameL_iff.1 hs
            subst this
            rw [hx] at hy
            injection hy with hy
            exact e hy
          clear hx hy hlt hlt2 hI t1 t2 h1 h2
          by_cases u1 : x.lba = y.lba
          · have v1 : (x.lba == y.lba) = true := by simp [u1]
            by_cases u2 : x.len = y.len
            · have v2 : (x.len == y.len) = true := by simp [u2]
              have v3 : (x.phys == y.phys) = false := by
                simp
                intro u3
                exact e (by cases x; cases y; simp only at u1 u2 u3; subst u1; subst u2; subst u3; rfl)
              clear e u1 u2
              go_wp2_with fail
              go_quiet (fail)
              go_wp2_with fail
              go_ret
              exact ⟨by rw [show sameL m1 m2 = false from hne]; rfl, k1.drewN _⟩
            · have v2 : (x.len == y.len) = false := by simp [u2]
              clear e u1 u2
              go_wp2_with fail
              go_quiet (fail)
              go_wp2_with fail
              go_ret
              exact ⟨by rw [show sameL m1 m2 = false from hne]; rfl, k1.drewN _⟩
          · have v1 : (x.lba == y.lba) = false := by simp [u1]
            clear e u1
            go_wp2_with fail
            go_quiet (fail)
            go_wp2_with fail
            go_ret
            exact ⟨by rw [show sameL m1 m2 = false from hne]; rfl, k1.drewN _⟩
      · have di : ¬ (i : Int) < (m1.length : Int) := by omega
        have he : Hid (sameL m1 m2 = true) := sameL_iff.2 (sameL_take hl' hI (by omega))
        clear hlt h1 h2
        go_wp2_with fail
        go_ret
        exact ⟨by rw [show sameL m1 m2 = true from he]; rfl, k1⟩
  · have hb : ((m1.length : Int) != (m2.length : Int)) = true := by simp; omega
    have hne : Hid (sameL m1 m2 = false) := by
      show sameL m1 m2 = false
      rw [Bool.eq_false_iff]
      intro hs
      exact hl (by rw [sameL_iff.1 hs])
    clear hl h1 h2
    go_enter Try.func18, Try.ntmps18
    go_wp2_with fail
    go_ret
    exact ⟨by rw [show sameL m1 m2 = false from hne]; rfl, K0⟩
/-- What one call makes of the runs of a map that never is full. -/
def oneL (cap : Int) (f : Nat → Int) (m : List Rn) : List Rn :=
  if f 0 = 0 then (if okR cap (f 1) (f 2) = true ∧ 0 ≤ f 3 ∧ f 3 ≤ 1048576 then setL ⟨f 1, f 2, f 3⟩ m else m)
  else if okR cap (f 1) (f 2) = true then clearL (f 1) (f 1 + f 2) m else m
theorem Did.fits {w wa : World} {q b p k cap : Nat} {m' : List Rn} {e : Ending} {w' : World} (h : Did w wa q b p k 512 cap m' e w') (hf : Form m') (hl : Lim (cap : Int) 1049088 m') (hc : cap ≤ 512) : e = .returned (.int .i64 0) ∧ Mp w w' q b p k 512 cap m' ∧ Keep (Own3 b p k) wa w' := by
  refine h.yes ?_
  have := hl.count hf (by omega)
  omega
/-- A range set, or cleared, in a map that never is full. -/
theorem set_fits {w wa : World} {q b p k cap : Nat} {m : List Rn} (h : Mp w wa q b p k 512 cap m) {r : Rn} (h0 : 0 ≤ r.lba) (h1 : 1 ≤ r.len) (h2 : r.lba + r.len ≤ (cap : Int)) (h3 : 0 ≤ r.phys) (h4 : r.phys ≤ 1048576) :
    Calls Try.prog 10 #[.pointer (some ⟨q, 0, none⟩), .int .i64 r.lba, .int .i64 r.len, .int .i64 r.phys] wa fun e w' => e = .returned (.int .i64 0) ∧ Mp w w' q b p k 512 cap (setL r m) ∧ Keep (Own3 b p k) wa w' :=
  (set_map h h0 h1 h2 h3 h4).mono (fun _ _ hD => hD.fits (setL_form ⟨h0, h1, h3⟩ h.form) (by
    have := h.lim.chg h.form (x := r) h0 h1 (by unfold Rn.fin; exact h2) (fun _ => by have := h.cap2; omega)
    rwa [chg, if_neg (by omega)] at this) h.cap2)
theorem clear_fits {w wa : World} {q b p k cap : Nat} {m : List Rn} (h : Mp w wa q b p k 512 cap m) {lba n : Int} (h0 : 0 ≤ lba) (h1 : 1 ≤ n) (h2 : lba + n ≤ (cap : Int)) :
    Calls Try.prog 11 #[.pointer (some ⟨q, 0, none⟩), .int .i64 lba, .int .i64 n] wa fun e w' => e = .returned (.int .i64 0) ∧ Mp w w' q b p k 512 cap (clearL lba (lba + n) m) ∧ Keep (Own3 b p k) wa w' :=
  (clear_map h h0 h1 h2).mono (fun _ _ hD => hD.fits (clearL_form h0 (by omega) h.form) (by
    have := h.lim.chg h.form (x := ⟨lba, n, -1⟩) h0 h1 h2 (fun c => by simp at c)
    rwa [chg, if_pos (by simp)] at this) h.cap2)
/-- Set and Clear at any numbers. -/
theorem set_any9 {w wa : World} {q b p k cap : Nat} {m : List Rn} (h : Mp w wa q b p k 512 cap m) (f : Nat → Int) (hf : ∀ j, -9223372036854775808 ≤ f j ∧ f j ≤ 9223372036854775807) (h0 : f 0 = 0) :
    Calls Try.prog 10 #[.pointer (some ⟨q, 0, none⟩), .int .i64 (f 1), .int .i64 (f 2), .int .i64 (f 3)] wa fun e w' => (∃ c, e = .returned (.int .i64 c)) ∧ Mp w w' q b p k 512 cap (oneL cap f m) ∧ Keep (Own3 b p k) wa w' := by
  unfold oneL
  rw [if_pos h0]
  by_cases c : okR (cap : Int) (f 1) (f 2) = true ∧ 0 ≤ f 3 ∧ f 3 ≤ 1048576
  · rw [if_pos c]
    obtain ⟨c1, c2, c3⟩ := okR_iff.1 c.1
    refine (set_fits h (r := ⟨f 1, f 2, f 3⟩) c2 c1 (by simp only; omega) c.2.1 c.2.2).mono ?_
    rintro e w' ⟨rfl, h1, h2⟩
    exact ⟨⟨0, rfl⟩, h1, h2⟩
  · rw [if_neg c]
    refine (set_no h (lba := f 1) (n := f 2) (phys := f 3) (hf 1).2 ?_).mono ?_
    · by_cases c1 : okR (cap : Int) (f 1) (f 2) = true
      · right
        by_cases c2 : f 3 < 0
        · exact Or.inl c2
        · right
          by_cases c3 : f 3 ≤ 1048576
          · exact absurd ⟨c1, by omega, c3⟩ c
          · omega
      · left; simpa using c1
    · rintro e w' ⟨rfl, hk⟩
      exact ⟨⟨1, rfl⟩, h.more hk, hk.mono (fun _ _ e => e.elim)⟩
theorem clear_any9 {w wa : World} {q b p k cap : Nat} {m : List Rn} (h : Mp w wa q b p k 512 cap m) (f : Nat → Int) (hf : ∀ j, -9223372036854775808 ≤ f j ∧ f j ≤ 9223372036854775807) (h0 : ¬ f 0 = 0) :
    Calls Try.prog 11 #[.pointer (some ⟨q, 0, none⟩), .int .i64 (f 1), .int .i64 (f 2)] wa fun e w' => (∃ c, e = .returned (.int .i64 c)) ∧ Mp w w' q b p k 512 cap (oneL cap f m) ∧ Keep (Own3 b p k) wa w' := by
  unfold oneL
  rw [if_neg h0]
  by_cases c : okR (cap : Int) (f 1) (f 2) = true
  · rw [if_pos c]
    obtain ⟨c1, c2, c3⟩ := okR_iff.1 c
    refine (clear_fits h c2 c1 (by omega)).mono ?_
    rintro e w' ⟨rfl, h1, h2⟩
    exact ⟨⟨0, rfl⟩, h1, h2⟩
  · rw [if_neg c]
    refine (clear_no h (lba := f 1) (n := f 2) (hf 1).2 (by simpa using c)).mono ?_
    rintro e w' ⟨rfl, hk⟩
    exact ⟨⟨1, rfl⟩, h.more hk, hk.mono (fun _ _ e => e.elim)⟩

set_option maxRecDepth 100000 in
set_option maxHeartbeats 1000000 in
theorem one_any {w wa : World} {q b p k cap : Nat} {m : List Rn} (h : Mp w wa q b p k 512 cap m) (f : Nat → Int) (hf : ∀ j, -9223372036854775808 ≤ f j ∧ f j ≤ 9223372036854775807) :
    Calls Try.prog 23 #[.pointer (some ⟨q, 0, none⟩), .agg (actA f)] wa fun e w' => e = .returned (.tuple #[]) ∧ Mp w w' q b p k 512 cap (oneL cap f m) ∧ Keep (Own3 b p k) wa w' := by
  have K1 : Keep (fun _ => False) wa (wa.alloc (.cells (actA f) 34)) := (Keep.refl _ _).alloc _
  have B1 : Blk (wa.alloc (.cells (actA f) 34)) wa.heap.size 4 (fun j => .int .i64 (f j)) := blk_alloc wa _ 34 4 _ (fun i hi => by rcases four hi with rfl | rfl | rfl | rfl <;> rfl)
  have M1 := h.more K1
  have q0 : (wa.alloc (.cells (actA f) 34)).cell? ⟨wa.heap.size, 0, none⟩ = some (.int .i64 (f 0)) := (B1 0 (by omega)).1
  have q1 : (wa.alloc (.cells (actA f) 34)).cell? ⟨wa.heap.size, 1, none⟩ = some (.int .i64 (f 1)) := (B1 1 (by omega)).1
  have q2 : (wa.alloc (.cells (actA f) 34)).cell? ⟨wa.heap.size, 2, none⟩ = some (.int .i64 (f 2)) := (B1 2 (by omega)).1
  have q3 : (wa.alloc (.cells (actA f) 34)).cell? ⟨wa.heap.size, 3, none⟩ = some (.int .i64 (f 3)) := (B1 3 (by omega)).1
  have K1' : Keep (Own3 b p k) wa (wa.alloc (.cells (actA f) 34)) := K1.mono (fun _ _ e => e.elim)
  generalize hW : wa.alloc (.cells (actA f) 34) = w1 at K1 M1 q0 q1 q2 q3 K1' B1
  unfold actA at hW ⊢
  by_cases c : f 0 = 0
  · have hs := set_any9 M1 f hf c
    have cb : (f 0 == 0) = true := by simp [c]
    clear h M1 B1 K1 c
    generalize hm' : oneL (cap : Int) f m = m' at hs ⊢
    go_enter Try.func23, Try.ntmps23
    go_wp2_with (go_at_call 10; refine hs.mono ?_; rintro e w2 ⟨⟨c2, rfl⟩, M2, k2⟩)
    exact bodyPost_end (v := .tuple #[]) (results_none rfl _ _ _) rfl ⟨rfl, M2, K1'.trans k2⟩
  · have hs := clear_any9 M1 f hf c
    have cb : (f 0 == 0) = false := by simp [c]
    clear h M1 B1 K1 c
    generalize hm' : oneL (cap : Int) f m = m' at hs ⊢
    go_enter Try.func23, Try.ntmps23
    go_wp2_with (go_at_call 11; refine hs.mono ?_; rintro e w2 ⟨⟨c2, rfl⟩, M2, k2⟩)
    exact bodyPost_end (v := .tuple #[]) (results_none rfl _ _ _) rfl ⟨rfl, M2, K1'.trans k2⟩
end Tg
end Go.Proofs.Ytobljchpphcolaa
