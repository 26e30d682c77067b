/-
  The document's own Feed, walked.
-/
import Derived.Test.YthfbfepaoknmfaaSd
namespace Go.Proofs.Ythfbfepaoknmfaa
open Go.ChangeShapes Go.WideShapes Go.ChangeAt Go.RowKit
namespace Tg
/-- What the first loop has found among the first k. -/
def MxI (ex us : List Int) (lba : Int) (k : Nat) (r : Int) : Prop := (r = -1 ∧ ∀ i, i < k → ex[i]? ≠ some lba) ∨ ∃ j : Nat, r = (j : Int) ∧ j < k ∧ ex[j]? = some lba ∧ ∀ i, i < k → ex[i]? = some lba → us.getD i 0 ≤ us.getD j 0
theorem mx_zero (ex us : List Int) (lba : Int) : MxI ex us lba 0 (-1) := Or.inl ⟨rfl, fun i h => by omega⟩
theorem mx_skip {ex us : List Int} {lba : Int} {k : Nat} {r : Int} (h : MxI ex us lba k r) (hk : ex[k]? ≠ some lba) : MxI ex us lba (k + 1) r := by
  rcases h with ⟨h1, h2⟩ | ⟨j, h1, h2, h3, h4⟩
  · exact Or.inl ⟨h1, fun i hi => by by_cases e : i = k; subst e; exact hk; exact h2 i (by omega)⟩
  · exact Or.inr ⟨j, h1, by omega, h3, fun i hi hx => by by_cases e : i = k; subst e; exact (hk hx).elim; exact h4 i (by omega) hx⟩
theorem mx_first {ex us : List Int} {lba : Int} {k : Nat} (h : MxI ex us lba k (-1)) (hk : ex[k]? = some lba) : MxI ex us lba (k + 1) (k : Int) := by
  rcases h with ⟨h1, h2⟩ | ⟨j, h1, h2, h3, h4⟩
  · exact Or.inr ⟨k, rfl, by omega, hk, fun i hi hx => by by_cases e : i = k; subst e; exact Int.le_refl _; exact (h2 i (by omega) hx).elim⟩
  · omega
theorem mx_more {ex us : List Int} {lba : Int} {k j : Nat} (h : MxI ex us lba k (j : Int)) (hk : ex[k]? = some lba) (hl : us.getD j 0 < us.getD k 0) : MxI ex us lba (k + 1) (k : Int) := by
  rcases h with ⟨h1, h2⟩ | ⟨j', h1, h2, h3, h4⟩
  · omega
  · obtain rfl : j = j' := by omega
    exact Or.inr ⟨k, rfl, by omega, hk, fun i hi hx => by by_cases e : i = k; subst e; exact Int.le_refl _; have := h4 i (by omega) hx; omega⟩
theorem mx_less {ex us : List Int} {lba : Int} {k j : Nat} (h : MxI ex us lba k (j : Int)) (hl : ¬ us.getD j 0 < us.getD k 0) : MxI ex us lba (k + 1) (j : Int) := by
  rcases h with ⟨h1, h2⟩ | ⟨j', h1, h2, h3, h4⟩
  · omega
  · obtain rfl : j = j' := by omega
    exact Or.inr ⟨j, rfl, by omega, h3, fun i hi hx => by by_cases e : i = k; subst e; omega; exact h4 i (by omega) hx⟩
/-- What the second loop has found among the first k. -/
def MnI (us : List Int) (k j : Nat) : Prop := j < k ∧ ∀ i, i < k → us.getD j 0 < us.getD i 0 ∨ (us.getD j 0 = us.getD i 0 ∧ j ≤ i)
theorem mn_one (us : List Int) : MnI us 1 0 := ⟨by omega, fun i hi => Or.inr ⟨by rw [show i = 0 by omega], by omega⟩⟩
theorem mn_less {us : List Int} {k j : Nat} (h : MnI us k j) (hl : us.getD k 0 < us.getD j 0) : MnI us (k + 1) k := by
  refine ⟨by omega, fun i hi => ?_⟩
  by_cases e : i = k
  · subst e; exact Or.inr ⟨rfl, by omega⟩
  · have := h.2 i (by omega)
    omega
theorem mn_more {us : List Int} {k j : Nat} (h : MnI us k j) (hl : ¬ us.getD k 0 < us.getD j 0) : MnI us (k + 1) j := by
  have h1 := h.1
  refine ⟨by omega, fun i hi => ?_⟩
  by_cases e : i = k
  · subst e; omega
  · exact h.2 i (by omega)
theorem get_of {l : List Int} {i : Nat} (h : i < l.length) : l[i]? = some (l.getD i 0) := by
  rw [List.getD_eq_getElem?_getD, List.getElem?_eq_getElem h]
  rfl
theorem Ri.cell {w0 w : World} {g cap : Nat} {m : List Int} (h : Ri w0 w (some ⟨g, 0, none⟩) cap m) {i : Nat} (hi : i < m.length) : w.cell? ⟨g, i, none⟩ = some (.int .i64 (m.getD i 0)) := by
  rcases h.is.2.2 with e | ⟨g', e, hc⟩
  · rw [e] at hi; simp at hi
  · injection e with e; injection e with e; subst e
    exact hc i _ (by unfold ic; rw [List.getElem?_map, get_of hi]; rfl)
theorem Ri.some {w0 w : World} {a : Option Addr} {cap : Nat} {m : List Int} (h : Ri w0 w a cap m) (hm : 0 < m.length) : ∃ g, a = Option.some ⟨g, 0, none⟩ := by
  rcases h.is.2.2 with e | ⟨g', e, hc⟩
  · rw [e] at hm; simp at hm
  · exact ⟨g', e⟩
/-- The document's own detector, with its rows' places. -/
def Rh (w0 w : World) (p g1 g2 g3 c1 c2 c3 : Nat) (ex us lg : List Int) (now : Int) : Prop := Rf w0 w p (t3 (some ⟨g1, 0, none⟩) (some ⟨g2, 0, none⟩) (some ⟨g3, 0, none⟩)) (t3 c1 c2 c3) (t3 ex us lg) now
/-- Its blocks. -/
def RhB (p g1 g2 g3 : Nat) (b : Nat) : Prop := b = p ∨ b = g1 ∨ b = g2 ∨ b = g3
theorem rhB {p g1 g2 g3 b : Nat} : RfB p (t3 (some ⟨g1, 0, none⟩) (some ⟨g2, 0, none⟩) (some ⟨g3, 0, none⟩)) b ↔ RhB p g1 g2 g3 b := by
  unfold RfB RhB
  constructor
  · rintro (h | ⟨k, hk, e⟩)
    · exact Or.inl h
    · rcases three hk with rfl | rfl | rfl
      · have e : (some (⟨g1, 0, none⟩ : Addr)) = some ⟨b, 0, none⟩ := e
        injection e with e; injection e with e; exact Or.inr (Or.inl e.symm)
      · have e : (some (⟨g2, 0, none⟩ : Addr)) = some ⟨b, 0, none⟩ := e
        injection e with e; injection e with e; exact Or.inr (Or.inr (Or.inl e.symm))
      · have e : (some (⟨g3, 0, none⟩ : Addr)) = some ⟨b, 0, none⟩ := e
        injection e with e; injection e with e; exact Or.inr (Or.inr (Or.inr e.symm))
  · rintro (h | rfl | rfl | rfl)
    · exact Or.inl h
    · exact Or.inr ⟨0, by omega, rfl⟩
    · exact Or.inr ⟨1, by omega, rfl⟩
    · exact Or.inr ⟨2, by omega, rfl⟩
theorem Rg.rh {w0 w : World} {p : Nat} {ex us lg : List Int} {now : Int} (h : Rg w0 w p ex us lg now) (h1 : 0 < ex.length) (h2 : 0 < us.length) (h3 : 0 < lg.length) : ∃ g1 g2 g3 c1 c2 c3, Rh w0 w p g1 g2 g3 c1 c2 c3 ex us lg now := by
  obtain ⟨a1, a2, a3, c1, c2, c3, R⟩ := h
  obtain ⟨g1, e1⟩ := (R.row 0 (by omega)).some h1
  obtain ⟨g2, e2⟩ := (R.row 1 (by omega)).some h2
  obtain ⟨g3, e3⟩ := (R.row 2 (by omega)).some h3
  have e1 : a1 = _ := e1
  have e2 : a2 = _ := e2
  have e3 : a3 = _ := e3
  subst e1 e2 e3
  exact ⟨g1, g2, g3, c1, c2, c3, R⟩
theorem Rh.more {w0 w w' : World} {p g1 g2 g3 c1 c2 c3 : Nat} {ex us lg : List Int} {now : Int} (h : Rh w0 w p g1 g2 g3 c1 c2 c3 ex us lg now) (k : Keep (fun _ => False) w w') : Rh w0 w' p g1 g2 g3 c1 c2 c3 ex us lg now := Rf.more h k
theorem Rh.keep {w0 w : World} {p g1 g2 g3 c1 c2 c3 : Nat} {ex us lg : List Int} {now : Int} (h : Rh w0 w p g1 g2 g3 c1 c2 c3 ex us lg now) : Keep (fun _ => False) w0 w := Rf.keep h
theorem Rh.other {w0 w w' : World} {p g1 g2 g3 c1 c2 c3 : Nat} {ex us lg : List Int} {now : Int} {S : Nat → Prop} (h : Rh w0 w p g1 g2 g3 c1 c2 c3 ex us lg now) (k : Keep S w w') (hs : ∀ b, RhB p g1 g2 g3 b → ¬ S b) (h0 : Keep (fun _ => False) w0 w') : Rh w0 w' p g1 g2 g3 c1 c2 c3 ex us lg now := Rf.other h k (fun b hb => hs b (rhB.1 hb)) h0
theorem Rh.lt {w0 w : World} {p g1 g2 g3 c1 c2 c3 : Nat} {ex us lg : List Int} {now : Int} (h : Rh w0 w p g1 g2 g3 c1 c2 c3 ex us lg now) {b : Nat} (hb : RhB p g1 g2 g3 b) : w0.heap.size ≤ b ∧ b < w.heap.size := Rf.lt h (rhB.2 hb)
theorem Rh.z0 {w0 w : World} {p g1 g2 g3 c1 c2 c3 : Nat} {ex us lg : List Int} {now : Int} (h : Rh w0 w p g1 g2 g3 c1 c2 c3 ex us lg now) : w.cell? ⟨p, 0, none⟩ = some (.slice (some ⟨g1, 0, none⟩) ex.length c1) := (h.top 0 (by omega)).1
theorem Rh.z1 {w0 w : World} {p g1 g2 g3 c1 c2 c3 : Nat} {ex us lg : List Int} {now : Int} (h : Rh w0 w p g1 g2 g3 c1 c2 c3 ex us lg now) : w.cell? ⟨p, 1, none⟩ = some (.slice (some ⟨g2, 0, none⟩) us.length c2) := (h.top 1 (by omega)).1
theorem Rh.z2 {w0 w : World} {p g1 g2 g3 c1 c2 c3 : Nat} {ex us lg : List Int} {now : Int} (h : Rh w0 w p g1 g2 g3 c1 c2 c3 ex us lg now) : w.cell? ⟨p, 2, none⟩ = some (.slice (some ⟨g3, 0, none⟩) lg.length c3) := (h.top 2 (by omega)).1
theorem Rh.z3 {w0 w : World} {p g1 g2 g3 c1 c2 c3 : Nat} {ex us lg : List Int} {now : Int} (h : Rh w0 w p g1 g2 g3 c1 c2 c3 ex us lg now) : w.cell? ⟨p, 3, none⟩ = some (.int .i64 now) ∧ w.frozen? ⟨p, 3, none⟩ = false := h.top 3 (by omega)
theorem Rh.e1 {w0 w : World} {p g1 g2 g3 c1 c2 c3 : Nat} {ex us lg : List Int} {now : Int} (h : Rh w0 w p g1 g2 g3 c1 c2 c3 ex us lg now) {i : Nat} (hi : i < ex.length) : w.cell? ⟨g1, i, none⟩ = some (.int .i64 (ex.getD i 0)) ∧ w.frozen? ⟨g1, i, none⟩ = false := ⟨Ri.cell (h.row 0 (by omega)) hi, Ri.fz (h.row 0 (by omega)) i⟩
theorem Rh.e2 {w0 w : World} {p g1 g2 g3 c1 c2 c3 : Nat} {ex us lg : List Int} {now : Int} (h : Rh w0 w p g1 g2 g3 c1 c2 c3 ex us lg now) {i : Nat} (hi : i < us.length) : w.cell? ⟨g2, i, none⟩ = some (.int .i64 (us.getD i 0)) ∧ w.frozen? ⟨g2, i, none⟩ = false := ⟨Ri.cell (h.row 1 (by omega)) hi, Ri.fz (h.row 1 (by omega)) i⟩
theorem Rh.e3 {w0 w : World} {p g1 g2 g3 c1 c2 c3 : Nat} {ex us lg : List Int} {now : Int} (h : Rh w0 w p g1 g2 g3 c1 c2 c3 ex us lg now) {i : Nat} (hi : i < lg.length) : w.cell? ⟨g3, i, none⟩ = some (.int .i64 (lg.getD i 0)) ∧ w.frozen? ⟨g3, i, none⟩ = false := ⟨Ri.cell (h.row 2 (by omega)) hi, Ri.fz (h.row 2 (by omega)) i⟩
theorem Rh.s1 {w0 w : World} {p g1 g2 g3 c1 c2 c3 : Nat} {ex us lg : List Int} {now : Int} (h : Rh w0 w p g1 g2 g3 c1 c2 c3 ex us lg now) (i : Nat) (v : Int) : Rh w0 (w.setCell ⟨g1, i, none⟩ (.int .i64 v)) p g1 g2 g3 c1 c2 c3 (ex.set i v) us lg now := (Rf.set h (k := 0) (by omega) rfl i v).congr (fun _ _ => rfl) (fun _ _ => rfl) (fun k hk => by rcases three hk with rfl | rfl | rfl <;> rfl)
theorem Rh.s2 {w0 w : World} {p g1 g2 g3 c1 c2 c3 : Nat} {ex us lg : List Int} {now : Int} (h : Rh w0 w p g1 g2 g3 c1 c2 c3 ex us lg now) (i : Nat) (v : Int) : Rh w0 (w.setCell ⟨g2, i, none⟩ (.int .i64 v)) p g1 g2 g3 c1 c2 c3 ex (us.set i v) lg now := (Rf.set h (k := 1) (by omega) rfl i v).congr (fun _ _ => rfl) (fun _ _ => rfl) (fun k hk => by rcases three hk with rfl | rfl | rfl <;> rfl)
theorem Rh.s3 {w0 w : World} {p g1 g2 g3 c1 c2 c3 : Nat} {ex us lg : List Int} {now : Int} (h : Rh w0 w p g1 g2 g3 c1 c2 c3 ex us lg now) (i : Nat) (v : Int) : Rh w0 (w.setCell ⟨g3, i, none⟩ (.int .i64 v)) p g1 g2 g3 c1 c2 c3 ex us (lg.set i v) now := (Rf.set h (k := 2) (by omega) rfl i v).congr (fun _ _ => rfl) (fun _ _ => rfl) (fun k hk => by rcases three hk with rfl | rfl | rfl <;> rfl)
theorem Rh.s4 {w0 w : World} {p g1 g2 g3 c1 c2 c3 : Nat} {ex us lg : List Int} {now : Int} (h : Rh w0 w p g1 g2 g3 c1 c2 c3 ex us lg now) (v : Int) : Rh w0 (w.setCell ⟨p, 3, none⟩ (.int .i64 v)) p g1 g2 g3 c1 c2 c3 ex us lg v := Rf.setNow h v
theorem kp {p g1 g2 g3 b : Nat} {a w : World} (h : Keep (RhB p g1 g2 g3) a w) (hb : RhB p g1 g2 g3 b) (i : Nat) (v : Value) : Keep (RhB p g1 g2 g3) a (w.setCell ⟨b, i, none⟩ v) := h.setCell (p := ⟨b, i, none⟩) (Or.inl hb) v
end Tg
end Go.Proofs.Ythfbfepaoknmfaa
