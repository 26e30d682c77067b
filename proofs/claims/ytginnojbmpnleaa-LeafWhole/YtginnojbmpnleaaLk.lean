/-
  Rows of streams in memory.
-/
import Derived.Test.YtginnojbmpnleaaLj
namespace Go.Proofs.Ytginnojbmpnleaa
open Go.ChangeShapes Go.WideShapes Go.ChangeAt Go.RowKit
namespace Tg
/-- A stream as it lies in memory. -/
structure Raw where
  k : Int
  e : Int
  g : Int
  a : Option Addr
  len : Nat
  cap : Nat
def rwc (r : Raw) (j : Nat) : Value := if j = 0 then .int .i64 r.k else if j = 1 then .int .u32 r.e else if j = 2 then .int .u32 r.g else .slice r.a r.len r.cap
def rwl (r : Raw) : List Value := [.int .i64 r.k, .int .u32 r.e, .int .u32 r.g, .slice r.a r.len r.cap]
def rwcells (l : List Raw) : List Value := l.flatMap rwl
theorem rwcells_len (l : List Raw) : (rwcells l).length = l.length * 4 := by
  induction l with
  | nil => rfl
  | cons v l ih => simp only [rwcells, List.flatMap_cons, List.length_append, List.length_cons] at *; rw [ih]; simp [rwl]; omega
theorem rwcells_app (l m : List Raw) : rwcells (l ++ m) = rwcells l ++ rwcells m := by simp [rwcells]
theorem rwcells_one (l : List Raw) : ∀ u ∈ rwcells l, u.oneCell' = true := by
  intro u hu
  obtain ⟨p, -, hp⟩ := List.mem_flatMap.1 hu
  simp [rwl] at hp
  rcases hp with rfl | rfl | rfl | rfl <;> rfl
theorem rwcells_at {r : Raw} : ∀ {l : List Raw} {q : Nat}, l[q]? = some r → ∀ j, j < 4 → (rwcells l)[q * 4 + j]? = some (rwc r j)
  | [], q, h, _, _ => by simp at h
  | y :: l, 0, h, j, hj => by
    simp at h
    subst h
    rw [show rwcells (y :: l) = rwl y ++ rwcells l from rfl, List.getElem?_append_left (by simp [rwl]; omega), Nat.zero_mul, Nat.zero_add]
    rcases (by omega : j = 0 ∨ j = 1 ∨ j = 2 ∨ j = 3) with rfl | rfl | rfl | rfl <;> rfl
  | y :: l, q + 1, h, j, hj => by
    simp at h
    have := rwcells_at (l := l) (q := q) h j hj
    rw [show rwcells (y :: l) = rwl y ++ rwcells l from rfl, List.getElem?_append_right (by simp [rwl]; omega), ← this]
    congr 1
    simp [rwl]; omega
/-- A row of streams that is read, wherever it begins. -/
def Rws (w : World) (a : Option Addr) (cap : Nat) (l : List Raw) : Prop :=
  l.length ≤ cap ∧ cap ≤ 9223372036854775807 ∧ (l = [] ∨ ∃ g o, a = some ⟨g, o, none⟩ ∧ ∀ i r, l[i]? = some r → ∀ j, j < 4 → w.cell? ⟨g, o + i * 4 + j, none⟩ = some (rwc r j))
theorem Rws.keep {S : Nat → Prop} {w w' : World} {a : Option Addr} {cap : Nat} {l : List Raw} (h : Rws w a cap l) (k : Keep S w w') (hs : ∀ g o, a = some ⟨g, o, none⟩ → l ≠ [] → ¬ S g) : Rws w' a cap l := by
  obtain ⟨h1, h2, h3⟩ := h
  by_cases hl : l = []
  · exact ⟨h1, h2, Or.inl hl⟩
  refine ⟨h1, h2, h3.imp id ?_⟩
  rintro ⟨g, o, rfl, hc⟩
  refine ⟨g, o, rfl, fun i p hp j hj => ?_⟩
  have c0 := hc i p hp j hj
  have hb := World.block_lt_of_cell? w _ c0
  rw [← c0]
  exact World.cell?_of_block (w := w) (a := ⟨g, o + i * 4 + j, none⟩) (k.block g hb (hs g o rfl hl))
theorem Rws.more {w w' : World} {a : Option Addr} {cap : Nat} {l : List Raw} (h : Rws w a cap l) (k : Keep (fun _ => False) w w') : Rws w' a cap l := h.keep k (fun _ _ _ _ e => e)
theorem Rws.at {w : World} {a : Option Addr} {cap : Nat} {l : List Raw} (h : Rws w a cap l) {i : Nat} {r : Raw} (hp : l[i]? = some r) :
    ∃ g o, a = some ⟨g, o, none⟩ ∧ ∀ j, j < 4 → w.cell? ⟨g, o + i * 4 + j, none⟩ = some (rwc r j) := by
  rcases h.2.2 with rfl | ⟨g, o, rfl, hc⟩
  · simp at hp
  · exact ⟨g, o, rfl, hc i r hp⟩
/-- What lies in memory are these streams. -/
def Says (w : World) (rs : List Raw) (L : List St) : Prop := rs.length = L.length ∧ ∀ (i : Nat) (r : Raw) (s : St), rs[i]? = some r → L[i]? = some s → r.k = s.kind ∧ r.e = s.ep ∧ r.g = s.gr ∧ Row w r.a r.len r.cap s.bytes
theorem Says.nil (w : World) : Says w [] [] := ⟨rfl, (fun i r s h => by simp at h)⟩
theorem Says.more {w w' : World} {rs : List Raw} {L : List St} (h : Says w rs L) (k : Keep (fun _ => False) w w') : Says w' rs L :=
  ⟨h.1, fun i r s h1 h2 => by obtain ⟨a, b, c, d⟩ := h.2 i r s h1 h2; exact ⟨a, b, c, d.moreV k⟩⟩
theorem Says.snoc {w : World} {rs : List Raw} {L : List St} (h : Says w rs L) {r : Raw} {s : St} (h1 : r.k = s.kind) (h2 : r.e = s.ep) (h3 : r.g = s.gr) (h4 : Row w r.a r.len r.cap s.bytes) : Says w (rs ++ [r]) (L ++ [s]) := by
  refine ⟨by simp [h.1], fun i r' s' e1 e2 => ?_⟩
  by_cases c : i < rs.length
  · rw [List.getElem?_append_left c] at e1
    rw [List.getElem?_append_left (by rw [← h.1]; exact c)] at e2
    exact h.2 i r' s' e1 e2
  · rw [List.getElem?_append_right (by omega)] at e1
    rw [List.getElem?_append_right (by rw [← h.1]; omega), ← h.1] at e2
    have : i - rs.length = 0 := by
      refine Decidable.byContradiction (fun c2 => ?_)
      rw [List.getElem?_eq_none (by simp; omega)] at e1
      cases e1
    rw [this] at e1 e2
    simp at e1 e2
    subst e1 e2
    exact ⟨h1, h2, h3, h4⟩
/-- Rows of streams of the type 36, of one's own. -/
theorem size36r : (Try.prog.info? 36).map (fun i => (i.zero.map (·.cells.size), i.size, i.bytes)) = some (some 4, 4, 40) := by kernel_rfl
theorem inf36 : ∃ i z, Try.prog.info? 36 = some i ∧ i.zero = some z ∧ i.size = 4 ∧ i.bytes = 40 ∧ z.cells.size = 4 := by
  have h := size36r
  cases hi : Try.prog.info? 36 with
  | none => rw [hi] at h; cases h
  | some i =>
    rw [hi] at h
    simp only [Option.map_some, Option.some.injEq, Prod.mk.injEq] at h
    obtain ⟨h1, h2, h3⟩ := h
    cases hz : i.zero with
    | none => rw [hz] at h1; cases h1
    | some z =>
      rw [hz] at h1
      simp only [Option.map_some, Option.some.injEq] at h1
      exact ⟨i, z, rfl, hz, h2, h3, h1⟩
structure RwR (w0 w : World) (a : Option Addr) (cap : Nat) (m : List Raw) : Prop where
  own : w.ownsRow w0.heap.size 36 4 (.slice a m.length cap) m.length (rwcells m)
  keep : Keep (fun _ => False) w0 w
theorem RwR.nil (w : World) : RwR w w none 0 [] := ⟨World.ownsRow_nil _ _ _ _, Keep.refl _ _⟩
theorem RwR.other {S : Nat → Prop} {w0 w w' : World} {a : Option Addr} {cap : Nat} {m : List Raw} (h : RwR w0 w a cap m) (k : Keep S w w') (hs : ∀ g, a = some ⟨g, 0, none⟩ → ¬ S g) (h0 : ∀ x, S x → w0.heap.size ≤ x) : RwR w0 w' a cap m := by
  refine ⟨⟨h.own.1, h.own.2.imp id ?_⟩, h.keep.next k (fun x hx e => by have := h0 x e; omega)⟩
  rintro ⟨g, c, cur, e, hb, hh, h1, h2, h3, h4⟩
  injection e with e1 e2 e3
  exact ⟨g, c, cur, by rw [e1, e3], hb, by rw [k.block g (by by_cases hg : g < w.heap.size; exact hg; simp [Array.getElem?_eq_none (Nat.le_of_not_lt hg)] at hh) (hs g e1)]; exact hh, h1, h2, h3, h4⟩
theorem RwR.more {w0 w w' : World} {a : Option Addr} {cap : Nat} {m : List Raw} (h : RwR w0 w a cap m) (k : Keep (fun _ => False) w w') : RwR w0 w' a cap m := h.other k (fun _ _ e => e) (fun _ e => e.elim)
theorem RwR.block {w0 w : World} {a : Option Addr} {cap : Nat} {m : List Raw} (h : RwR w0 w a cap m) {g : Nat} (e : a = some ⟨g, 0, none⟩) : w0.heap.size ≤ g ∧ g < w.heap.size := by
  have := h.own.lt g (by rw [e]; rfl)
  exact this
theorem RwR.rs {w0 w : World} {a : Option Addr} {cap : Nat} {m : List Raw} (h : RwR w0 w a cap m) : Rws w a cap m := by
  obtain ⟨h1, h2⟩ := h.own
  rcases h2 with ⟨e, hn⟩ | ⟨g, c, cur, e, hb, hh, hn, hm, hs, ht⟩
  · injection e with e1 e2 e3
    exact ⟨by omega, by omega, Or.inl (List.eq_nil_of_length_eq_zero hn)⟩
  · injection e with e1 e2 e3
    subst e1 e3
    unfold maxLen at hm
    refine ⟨hn, by omega, Or.inr ⟨g, 0, rfl, fun i p hp j hj => ?_⟩⟩
    have := h.own.cells (g := g) rfl (i * 4 + j) _ (rwcells_at hp j hj)
    rwa [Addr.add_lit, ← Nat.add_assoc] at this
theorem RwR.app1 {w0 w : World} {a : Option Addr} {cap : Nat} {m : List Raw} (h : RwR w0 w a cap m) (hl : m.length ≤ 100000) (r : Raw) :
    ∃ a' cap' w', (Builtin.append_ #[47, 47] 47 #[.slice a m.length cap, .slice (some ⟨w.heap.size, 0, none⟩) 1 1]).run Try.prog (w.alloc (.cells #[.int .i64 r.k, .int .u32 r.e, .int .u32 r.g, .slice r.a r.len r.cap] 36)) = .ok (.slice a' (m.length + 1) cap') w' ∧ RwR w0 w' a' cap' (m ++ [r]) ∧ Keep (fun b => a = some ⟨b, 0, none⟩) w w' ∧ (a' = a ∨ ∃ g, a' = some ⟨g, 0, none⟩ ∧ w.heap.size ≤ g) := by
  have hA := (Keep.refl (fun _ => False) w).alloc (.cells #[.int .i64 r.k, .int .u32 r.e, .int .u32 r.g, .slice r.a r.len r.cap] 36)
  have h1 := h.more hA
  have hnews : ∀ j u, (rwcells [r])[j]? = some u → (w.alloc (.cells #[.int .i64 r.k, .int .u32 r.e, .int .u32 r.g, .slice r.a r.len r.cap] 36)).cell? ((⟨w.heap.size, 0, none⟩ : Addr).add j) = some u := fun j u hu => cells_new w _ 36 j u (by simpa [rwcells, rwl] using hu)
  obtain ⟨i, z, hi, hz0, hz1, hz2, hz3⟩ := inf36
  generalize w.alloc (.cells #[.int .i64 r.k, .int .u32 r.e, .int .u32 r.g, .slice r.a r.len r.cap] 36) = w1 at *
  obtain ⟨v', w', hrun, hown, hgrow, hnil⟩ := run_append_own (P := Try.prog) w1 w0.heap.size 47 47 36 i z 4 40 Try.underlying47 hi hz0 hz1 hz2 hz3 (by decide) (.slice a m.length cap) m.length (rwcells m) h1.own
    ⟨w.heap.size, 0, none⟩ 1 1 (rwcells [r]) (rwcells_len [r]) hnews (rwcells_one [r]) (by unfold maxLen; omega) (by omega) h1.keep.size
  have hk : Keep (fun b => a = some ⟨b, 0, none⟩) w1 w' := (keep_grown hgrow).mono (fun b _ e => by
    rcases h1.own.2 with ⟨e', -⟩ | ⟨g, c, cur, e', -⟩
    · injection e' with e'; subst e'; cases e
    · injection e' with e'; subst e'; injection e with e; subst e; rfl)
  have hK : Keep (fun b => a = some ⟨b, 0, none⟩) w w' := (hA.mono (fun _ _ e => e.elim)).next hk (fun y hy e => e)
  have hK0 : Keep (fun _ => False) w0 w' := h1.keep.next hk (fun y hy e => by have := (h1.block e).1; omega)
  rw [← rwcells_app] at hown
  have hshape : ∃ a' cap', v' = .slice a' (m.length + 1) cap' := by
    rcases hown.2 with ⟨e, hn⟩ | ⟨g, c', cur, e, -⟩
    · omega
    · exact ⟨_, _, e⟩
  obtain ⟨a', cap', rfl⟩ := hshape
  refine ⟨a', cap', w', hrun, ⟨by rw [List.length_append]; exact hown, hK0⟩, hK, ?_⟩
  have hsz : w.heap.size ≤ w1.heap.size := hA.size
  rcases h1.own.2 with ⟨e', hn⟩ | ⟨g, c1, cur, e', hb, hh, hnc, hm, hss, ht⟩
  · injection e' with e1 e2 e3
    subst e1 e3
    have hn' := run_append_nil (P := Try.prog) w1 47 47 36 i _ Try.underlying47 hi hz0 ⟨w.heap.size, 0, none⟩ 1 1 (rwcells [r]) (by rw [hz1]; exact rwcells_len [r]) hnews (by omega) (by omega) (by rw [hz2]; omega)
    rw [hn] at hrun
    rw [hn'] at hrun
    injection hrun with hr1 hr2
    injection hr1 with hr1 hr3 hr4
    exact Or.inr ⟨_, hr1.symm, hsz⟩
  · injection e' with e1 e2 e3
    subst e1 e3
    by_cases hroom : m.length + 1 ≤ cap
    · obtain ⟨w'', hf, -, -⟩ := run_append_fits (P := Try.prog) w1 w0.heap.size 47 47 36 i 4 Try.underlying47 hi hz1 g m.length cap (rwcells m) h1.own ⟨w.heap.size, 0, none⟩ 1 1 (rwcells [r]) (rwcells_len [r]) hnews (rwcells_one [r]) hroom
      rw [hf] at hrun
      injection hrun with hr1 hr2
      injection hr1 with hr1 hr3 hr4
      exact Or.inl hr1.symm
    · have hg := run_append_grow (P := Try.prog) w1 47 47 36 i _ Try.underlying47 hi hz0 ⟨g, 0, none⟩ m.length cap (rwcells m) (by rw [hz1]; exact rwcells_len m) (h1.own.cells (g := g) rfl) ⟨w.heap.size, 0, none⟩ 1 1 (rwcells [r]) (by rw [hz1]; exact rwcells_len [r]) hnews (by omega) (by omega) (growslice_fits (by omega) (by rw [hz2]; omega))
      rw [hg] at hrun
      injection hrun with hr1 hr2
      injection hr1 with hr1 hr3 hr4
      exact Or.inr ⟨_, hr1.symm, hsz⟩
/-- Rows of streams of the type 30, of one's own. -/
theorem size30r : (Try.prog.info? 30).map (fun i => (i.zero.map (·.cells.size), i.size, i.bytes)) = some (some 4, 4, 40) := by kernel_rfl
theorem inf30 : ∃ i z, Try.prog.info? 30 = some i ∧ i.zero = some z ∧ i.size = 4 ∧ i.bytes = 40 ∧ z.cells.size = 4 := by
  have h := size30r
  cases hi : Try.prog.info? 30 with
  | none => rw [hi] at h; cases h
  | some i =>
    rw [hi] at h
    simp only [Option.map_some, Option.some.injEq, Prod.mk.injEq] at h
    obtain ⟨h1, h2, h3⟩ := h
    cases hz : i.zero with
    | none => rw [hz] at h1; cases h1
    | some z =>
      rw [hz] at h1
      simp only [Option.map_some, Option.some.injEq] at h1
      exact ⟨i, z, rfl, hz, h2, h3, h1⟩
structure RwL (w0 w : World) (a : Option Addr) (cap : Nat) (m : List Raw) : Prop where
  own : w.ownsRow w0.heap.size 30 4 (.slice a m.length cap) m.length (rwcells m)
  keep : Keep (fun _ => False) w0 w
theorem RwL.nil (w : World) : RwL w w none 0 [] := ⟨World.ownsRow_nil _ _ _ _, Keep.refl _ _⟩
theorem RwL.other {S : Nat → Prop} {w0 w w' : World} {a : Option Addr} {cap : Nat} {m : List Raw} (h : RwL w0 w a cap m) (k : Keep S w w') (hs : ∀ g, a = some ⟨g, 0, none⟩ → ¬ S g) (h0 : ∀ x, S x → w0.heap.size ≤ x) : RwL w0 w' a cap m := by
  refine ⟨⟨h.own.1, h.own.2.imp id ?_⟩, h.keep.next k (fun x hx e => by have := h0 x e; omega)⟩
  rintro ⟨g, c, cur, e, hb, hh, h1, h2, h3, h4⟩
  injection e with e1 e2 e3
  exact ⟨g, c, cur, by rw [e1, e3], hb, by rw [k.block g (by by_cases hg : g < w.heap.size; exact hg; simp [Array.getElem?_eq_none (Nat.le_of_not_lt hg)] at hh) (hs g e1)]; exact hh, h1, h2, h3, h4⟩
theorem RwL.more {w0 w w' : World} {a : Option Addr} {cap : Nat} {m : List Raw} (h : RwL w0 w a cap m) (k : Keep (fun _ => False) w w') : RwL w0 w' a cap m := h.other k (fun _ _ e => e) (fun _ e => e.elim)
theorem RwL.block {w0 w : World} {a : Option Addr} {cap : Nat} {m : List Raw} (h : RwL w0 w a cap m) {g : Nat} (e : a = some ⟨g, 0, none⟩) : w0.heap.size ≤ g ∧ g < w.heap.size := by
  have := h.own.lt g (by rw [e]; rfl)
  exact this
theorem RwL.rs {w0 w : World} {a : Option Addr} {cap : Nat} {m : List Raw} (h : RwL w0 w a cap m) : Rws w a cap m := by
  obtain ⟨h1, h2⟩ := h.own
  rcases h2 with ⟨e, hn⟩ | ⟨g, c, cur, e, hb, hh, hn, hm, hs, ht⟩
  · injection e with e1 e2 e3
    exact ⟨by omega, by omega, Or.inl (List.eq_nil_of_length_eq_zero hn)⟩
  · injection e with e1 e2 e3
    subst e1 e3
    unfold maxLen at hm
    refine ⟨hn, by omega, Or.inr ⟨g, 0, rfl, fun i p hp j hj => ?_⟩⟩
    have := h.own.cells (g := g) rfl (i * 4 + j) _ (rwcells_at hp j hj)
    rwa [Addr.add_lit, ← Nat.add_assoc] at this
theorem RwL.app1 {w0 w : World} {a : Option Addr} {cap : Nat} {m : List Raw} (h : RwL w0 w a cap m) (hl : m.length ≤ 100000) (r : Raw) :
    ∃ a' cap' w', (Builtin.append_ #[37, 37] 37 #[.slice a m.length cap, .slice (some ⟨w.heap.size, 0, none⟩) 1 1]).run Try.prog (w.alloc (.cells #[.int .i64 r.k, .int .u32 r.e, .int .u32 r.g, .slice r.a r.len r.cap] 30)) = .ok (.slice a' (m.length + 1) cap') w' ∧ RwL w0 w' a' cap' (m ++ [r]) ∧ Keep (fun b => a = some ⟨b, 0, none⟩) w w' ∧ (a' = a ∨ ∃ g, a' = some ⟨g, 0, none⟩ ∧ w.heap.size ≤ g) := by
  have hA := (Keep.refl (fun _ => False) w).alloc (.cells #[.int .i64 r.k, .int .u32 r.e, .int .u32 r.g, .slice r.a r.len r.cap] 30)
  have h1 := h.more hA
  have hnews : ∀ j u, (rwcells [r])[j]? = some u → (w.alloc (.cells #[.int .i64 r.k, .int .u32 r.e, .int .u32 r.g, .slice r.a r.len r.cap] 30)).cell? ((⟨w.heap.size, 0, none⟩ : Addr).add j) = some u := fun j u hu => cells_new w _ 30 j u (by simpa [rwcells, rwl] using hu)
  obtain ⟨i, z, hi, hz0, hz1, hz2, hz3⟩ := inf30
  generalize w.alloc (.cells #[.int .i64 r.k, .int .u32 r.e, .int .u32 r.g, .slice r.a r.len r.cap] 30) = w1 at *
  obtain ⟨v', w', hrun, hown, hgrow, hnil⟩ := run_append_own (P := Try.prog) w1 w0.heap.size 37 37 30 i z 4 40 Try.underlying37 hi hz0 hz1 hz2 hz3 (by decide) (.slice a m.length cap) m.length (rwcells m) h1.own
    ⟨w.heap.size, 0, none⟩ 1 1 (rwcells [r]) (rwcells_len [r]) hnews (rwcells_one [r]) (by unfold maxLen; omega) (by omega) h1.keep.size
  have hk : Keep (fun b => a = some ⟨b, 0, none⟩) w1 w' := (keep_grown hgrow).mono (fun b _ e => by
    rcases h1.own.2 with ⟨e', -⟩ | ⟨g, c, cur, e', -⟩
    · injection e' with e'; subst e'; cases e
    · injection e' with e'; subst e'; injection e with e; subst e; rfl)
  have hK : Keep (fun b => a = some ⟨b, 0, none⟩) w w' := (hA.mono (fun _ _ e => e.elim)).next hk (fun y hy e => e)
  have hK0 : Keep (fun _ => False) w0 w' := h1.keep.next hk (fun y hy e => by have := (h1.block e).1; omega)
  rw [← rwcells_app] at hown
  have hshape : ∃ a' cap', v' = .slice a' (m.length + 1) cap' := by
    rcases hown.2 with ⟨e, hn⟩ | ⟨g, c', cur, e, -⟩
    · omega
    · exact ⟨_, _, e⟩
  obtain ⟨a', cap', rfl⟩ := hshape
  refine ⟨a', cap', w', hrun, ⟨by rw [List.length_append]; exact hown, hK0⟩, hK, ?_⟩
  have hsz : w.heap.size ≤ w1.heap.size := hA.size
  rcases h1.own.2 with ⟨e', hn⟩ | ⟨g, c1, cur, e', hb, hh, hnc, hm, hss, ht⟩
  · injection e' with e1 e2 e3
    subst e1 e3
    have hn' := run_append_nil (P := Try.prog) w1 37 37 30 i _ Try.underlying37 hi hz0 ⟨w.heap.size, 0, none⟩ 1 1 (rwcells [r]) (by rw [hz1]; exact rwcells_len [r]) hnews (by omega) (by omega) (by rw [hz2]; omega)
    rw [hn] at hrun
    rw [hn'] at hrun
    injection hrun with hr1 hr2
    injection hr1 with hr1 hr3 hr4
    exact Or.inr ⟨_, hr1.symm, hsz⟩
  · injection e' with e1 e2 e3
    subst e1 e3
    by_cases hroom : m.length + 1 ≤ cap
    · obtain ⟨w'', hf, -, -⟩ := run_append_fits (P := Try.prog) w1 w0.heap.size 37 37 30 i 4 Try.underlying37 hi hz1 g m.length cap (rwcells m) h1.own ⟨w.heap.size, 0, none⟩ 1 1 (rwcells [r]) (rwcells_len [r]) hnews (rwcells_one [r]) hroom
      rw [hf] at hrun
      injection hrun with hr1 hr2
      injection hr1 with hr1 hr3 hr4
      exact Or.inl hr1.symm
    · have hg := run_append_grow (P := Try.prog) w1 37 37 30 i _ Try.underlying37 hi hz0 ⟨g, 0, none⟩ m.length cap (rwcells m) (by rw [hz1]; exact rwcells_len m) (h1.own.cells (g := g) rfl) ⟨w.heap.size, 0, none⟩ 1 1 (rwcells [r]) (by rw [hz1]; exact rwcells_len [r]) hnews (by omega) (by omega) (growslice_fits (by omega) (by rw [hz2]; omega))
      rw [hg] at hrun
      injection hrun with hr1 hr2
      injection hr1 with hr1 hr3 hr4
      exact Or.inr ⟨_, hr1.symm, hsz⟩
end Tg
end Go.Proofs.Ytginnojbmpnleaa
