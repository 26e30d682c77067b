/-
  Rows of rows of pages.
-/
import Derived.Test.YtginnojbmpnleaaLx
namespace Go.Proofs.Ytginnojbmpnleaa
open Go.ChangeShapes Go.WideShapes Go.ChangeAt Go.RowKit
namespace Tg
/-- A slice. -/
structure Sl where
  a : Option Addr
  len : Nat
  cap : Nat
def slc (r : Sl) (_j : Nat) : Value := .slice r.a r.len r.cap
def sll (r : Sl) : List Value := [.slice r.a r.len r.cap]
def slcells (l : List Sl) : List Value := l.flatMap sll
theorem slcells_len (l : List Sl) : (slcells l).length = l.length * 1 := by
  induction l with
  | nil => rfl
  | cons v l ih => simp only [slcells, List.flatMap_cons, List.length_append, List.length_cons] at *; rw [ih]; simp [sll]; omega
theorem slcells_app (l m : List Sl) : slcells (l ++ m) = slcells l ++ slcells m := by simp [slcells]
theorem slcells_one (l : List Sl) : ∀ u ∈ slcells l, u.oneCell' = true := by
  intro u hu
  obtain ⟨p, -, hp⟩ := List.mem_flatMap.1 hu
  simp [sll] at hp
  subst hp
  rfl
theorem slcells_at {r : Sl} : ∀ {l : List Sl} {q : Nat}, l[q]? = some r → ∀ j, j < 1 → (slcells l)[q * 1 + j]? = some (slc r j)
  | [], q, h, _, _ => by simp at h
  | y :: l, 0, h, j, hj => by
    simp at h
    subst h
    rw [show slcells (y :: l) = sll y ++ slcells l from rfl, List.getElem?_append_left (by simp [sll]; omega), Nat.zero_mul, Nat.zero_add]
    obtain rfl : j = 0 := by omega
    rfl
  | y :: l, q + 1, h, j, hj => by
    simp at h
    have := slcells_at (l := l) (q := q) h j hj
    rw [show slcells (y :: l) = sll y ++ slcells l from rfl, List.getElem?_append_right (by simp [sll]; omega), ← this]
    congr 1
    simp [sll]
/-- A row of slices that is read, wherever it begins. -/
def Rss (w : World) (a : Option Addr) (cap : Nat) (l : List Sl) : Prop :=
  l.length ≤ cap ∧ cap ≤ 9223372036854775807 ∧ (l = [] ∨ ∃ g o, a = some ⟨g, o, none⟩ ∧ ∀ i r, l[i]? = some r → ∀ j, j < 1 → w.cell? ⟨g, o + i * 1 + j, none⟩ = some (slc r j))
theorem Rss.keep {S : Nat → Prop} {w w' : World} {a : Option Addr} {cap : Nat} {l : List Sl} (h : Rss w a cap l) (k : Keep S w w') (hs : ∀ g o, a = some ⟨g, o, none⟩ → l ≠ [] → ¬ S g) : Rss w' a cap l := by
  obtain ⟨h1, h2, h3⟩ := h
  by_cases hl : l = []
  · exact ⟨h1, h2, Or.inl hl⟩
  refine ⟨h1, h2, h3.imp id ?_⟩
  rintro ⟨g, o, rfl, hc⟩
  refine ⟨g, o, rfl, fun i p hp j hj => ?_⟩
  have c0 := hc i p hp j hj
  have hb := World.block_lt_of_cell? w _ c0
  rw [← c0]
  exact World.cell?_of_block (w := w) (a := ⟨g, o + i * 1 + j, none⟩) (k.block g hb (hs g o rfl hl))
theorem Rss.more {w w' : World} {a : Option Addr} {cap : Nat} {l : List Sl} (h : Rss w a cap l) (k : Keep (fun _ => False) w w') : Rss w' a cap l := h.keep k (fun _ _ _ _ e => e)
theorem Rss.at {w : World} {a : Option Addr} {cap : Nat} {l : List Sl} (h : Rss w a cap l) {i : Nat} {r : Sl} (hp : l[i]? = some r) :
    ∃ g o, a = some ⟨g, o, none⟩ ∧ ∀ j, j < 1 → w.cell? ⟨g, o + i * 1 + j, none⟩ = some (slc r j) := by
  rcases h.2.2 with rfl | ⟨g, o, rfl, hc⟩
  · simp at hp
  · exact ⟨g, o, rfl, hc i r hp⟩
/-- Rows of slices of pages, of one's own. -/
theorem size23s : (Try.prog.info? 23).map (fun i => (i.zero.map (·.cells.size), i.size, i.bytes)) = some (some 1, 1, 24) := by kernel_rfl
theorem inf23s : ∃ i z, Try.prog.info? 23 = some i ∧ i.zero = some z ∧ i.size = 1 ∧ i.bytes = 24 ∧ z.cells.size = 1 := by
  have h := size23s
  cases hi : Try.prog.info? 23 with
  | none => rw [hi] at h; cases h
  | some i =>
    rw [hi] at h
    simp only [Option.map_some, Option.some.injEq, Prod.mk.injEq] at h
    obtain ⟨h1, h2, h3⟩ := h
    cases hz : i.zero with
    | none => rw [hz] at h1; cases h1
    | some z =>
      rw [hz] at h1
      simp only [Option.map_some, Option.some.injEq] at h1
      exact ⟨i, z, rfl, hz, h2, h3, h1⟩
structure RoS (w0 w : World) (a : Option Addr) (cap : Nat) (m : List Sl) : Prop where
  own : w.ownsRow w0.heap.size 23 1 (.slice a m.length cap) m.length (slcells m)
  keep : Keep (fun _ => False) w0 w
theorem RoS.nil (w : World) : RoS w w none 0 [] := ⟨World.ownsRow_nil _ _ _ _, Keep.refl _ _⟩
theorem RoS.other {S : Nat → Prop} {w0 w w' : World} {a : Option Addr} {cap : Nat} {m : List Sl} (h : RoS w0 w a cap m) (k : Keep S w w') (hs : ∀ g, a = some ⟨g, 0, none⟩ → ¬ S g) (h0 : ∀ x, S x → w0.heap.size ≤ x) : RoS w0 w' a cap m := by
  refine ⟨⟨h.own.1, h.own.2.imp id ?_⟩, h.keep.next k (fun x hx e => by have := h0 x e; omega)⟩
  rintro ⟨g, c, cur, e, hb, hh, h1, h2, h3, h4⟩
  injection e with e1 e2 e3
  exact ⟨g, c, cur, by rw [e1, e3], hb, by rw [k.block g (by by_cases hg : g < w.heap.size; exact hg; simp [Array.getElem?_eq_none (Nat.le_of_not_lt hg)] at hh) (hs g e1)]; exact hh, h1, h2, h3, h4⟩
theorem RoS.more {w0 w w' : World} {a : Option Addr} {cap : Nat} {m : List Sl} (h : RoS w0 w a cap m) (k : Keep (fun _ => False) w w') : RoS w0 w' a cap m := h.other k (fun _ _ e => e) (fun _ e => e.elim)
theorem RoS.block {w0 w : World} {a : Option Addr} {cap : Nat} {m : List Sl} (h : RoS w0 w a cap m) {g : Nat} (e : a = some ⟨g, 0, none⟩) : w0.heap.size ≤ g ∧ g < w.heap.size := by
  have := h.own.lt g (by rw [e]; rfl)
  exact this
theorem RoS.rs {w0 w : World} {a : Option Addr} {cap : Nat} {m : List Sl} (h : RoS w0 w a cap m) : Rss w a cap m := by
  obtain ⟨h1, h2⟩ := h.own
  rcases h2 with ⟨e, hn⟩ | ⟨g, c, cur, e, hb, hh, hn, hm, hs, ht⟩
  · injection e with e1 e2 e3
    exact ⟨by omega, by omega, Or.inl (List.eq_nil_of_length_eq_zero hn)⟩
  · injection e with e1 e2 e3
    subst e1 e3
    unfold maxLen at hm
    refine ⟨hn, by omega, Or.inr ⟨g, 0, rfl, fun i p hp j hj => ?_⟩⟩
    have := h.own.cells (g := g) rfl (i * 1 + j) _ (slcells_at hp j hj)
    rwa [Addr.add_lit, ← Nat.add_assoc] at this
theorem RoS.app1 {w0 w : World} {a : Option Addr} {cap : Nat} {m : List Sl} (h : RoS w0 w a cap m) (hl : m.length ≤ 100000) (r : Sl) :
    ∃ a' cap' w', (Builtin.append_ #[42, 42] 42 #[.slice a m.length cap, .slice (some ⟨w.heap.size, 0, none⟩) 1 1]).run Try.prog (w.alloc (.cells #[.slice r.a r.len r.cap] 23)) = .ok (.slice a' (m.length + 1) cap') w' ∧ RoS w0 w' a' cap' (m ++ [r]) ∧ Keep (fun b => a = some ⟨b, 0, none⟩) w w' ∧ (a' = a ∨ ∃ g, a' = some ⟨g, 0, none⟩ ∧ w.heap.size ≤ g) := by
  have hA := (Keep.refl (fun _ => False) w).alloc (.cells #[.slice r.a r.len r.cap] 23)
  have h1 := h.more hA
  have hnews : ∀ j u, (slcells [r])[j]? = some u → (w.alloc (.cells #[.slice r.a r.len r.cap] 23)).cell? ((⟨w.heap.size, 0, none⟩ : Addr).add j) = some u := fun j u hu => cells_new w _ 23 j u (by simpa [slcells, sll] using hu)
  obtain ⟨i, z, hi, hz0, hz1, hz2, hz3⟩ := inf23s
  generalize w.alloc (.cells #[.slice r.a r.len r.cap] 23) = w1 at *
  obtain ⟨v', w', hrun, hown, hgrow, hnil⟩ := run_append_own (P := Try.prog) w1 w0.heap.size 42 42 23 i z 1 24 Try.underlying42 hi hz0 hz1 hz2 hz3 (by decide) (.slice a m.length cap) m.length (slcells m) h1.own
    ⟨w.heap.size, 0, none⟩ 1 1 (slcells [r]) (slcells_len [r]) hnews (slcells_one [r]) (by unfold maxLen; omega) (by omega) h1.keep.size
  have hk : Keep (fun b => a = some ⟨b, 0, none⟩) w1 w' := (keep_grown hgrow).mono (fun b _ e => by
    rcases h1.own.2 with ⟨e', -⟩ | ⟨g, c, cur, e', -⟩
    · injection e' with e'; subst e'; cases e
    · injection e' with e'; subst e'; injection e with e; subst e; rfl)
  have hK : Keep (fun b => a = some ⟨b, 0, none⟩) w w' := (hA.mono (fun _ _ e => e.elim)).next hk (fun y hy e => e)
  have hK0 : Keep (fun _ => False) w0 w' := h1.keep.next hk (fun y hy e => by have := (h1.block e).1; omega)
  rw [← slcells_app] at hown
  have hshape : ∃ a' cap', v' = .slice a' (m.length + 1) cap' := by
    rcases hown.2 with ⟨e, hn⟩ | ⟨g, c', cur, e, -⟩
    · omega
    · exact ⟨_, _, e⟩
  obtain ⟨a', cap', rfl⟩ := hshape
  refine ⟨a', cap', w', hrun, ⟨by rw [List.length_append]; exact hown, hK0⟩, hK, ?_⟩
  have hsz : w.heap.size ≤ w1.heap.size := hA.size
  rcases h1.own.2 with ⟨e', hn⟩ | ⟨g, c1, cur, e', hb, hh, hnc, hm, hss, ht⟩
  · injection e' with e1 e2 e3
    subst e1 e3
    have hn' := run_append_nil (P := Try.prog) w1 42 42 23 i _ Try.underlying42 hi hz0 ⟨w.heap.size, 0, none⟩ 1 1 (slcells [r]) (by rw [hz1]; exact slcells_len [r]) hnews (by omega) (by omega) (by rw [hz2]; omega)
    rw [hn] at hrun
    rw [hn'] at hrun
    injection hrun with hr1 hr2
    injection hr1 with hr1 hr3 hr4
    exact Or.inr ⟨_, hr1.symm, hsz⟩
  · injection e' with e1 e2 e3
    subst e1 e3
    by_cases hroom : m.length + 1 ≤ cap
    · obtain ⟨w'', hf, -, -⟩ := run_append_fits (P := Try.prog) w1 w0.heap.size 42 42 23 i 1 Try.underlying42 hi hz1 g m.length cap (slcells m) h1.own ⟨w.heap.size, 0, none⟩ 1 1 (slcells [r]) (slcells_len [r]) hnews (slcells_one [r]) hroom
      rw [hf] at hrun
      injection hrun with hr1 hr2
      injection hr1 with hr1 hr3 hr4
      exact Or.inl hr1.symm
    · have hg := run_append_grow (P := Try.prog) w1 42 42 23 i _ Try.underlying42 hi hz0 ⟨g, 0, none⟩ m.length cap (slcells m) (by rw [hz1]; exact slcells_len m) (h1.own.cells (g := g) rfl) ⟨w.heap.size, 0, none⟩ 1 1 (slcells [r]) (by rw [hz1]; exact slcells_len [r]) hnews (by omega) (by omega) (growslice_fits (by omega) (by rw [hz2]; omega))
      rw [hg] at hrun
      injection hrun with hr1 hr2
      injection hr1 with hr1 hr3 hr4
      exact Or.inr ⟨_, hr1.symm, hsz⟩
theorem RoS.zero {w0 w : World} {cap g o : Nat} {m : List Sl} (h : RoS w0 w (some ⟨g, o, none⟩) cap m) : o = 0 := by
  rcases h.own.2 with ⟨e, -⟩ | ⟨g', c', cur, e, -⟩
  · injection e with e1; cases e1
  · injection e with e1
    injection e1 with e1
    injection e1 with e1 e2
theorem build_sl (a : Option Addr) (n c : Nat) (w : World) : (Instr.buildSlice 42 1 #[(0, .slice a n c)]).run Try.prog w = .ok (.slice (some ⟨w.heap.size, 0, none⟩) 1 1) (w.alloc (.cells #[.slice a n c] 23)) := by kernel_rfl
/-- Each of these slices is pages. -/
def AllP (w : World) (m : List Sl) : Prop := ∀ r ∈ m, ∃ l : List Pg, 1 ≤ l.length ∧ l.length ≤ 2048 ∧ r.len = l.length ∧ (∀ q ∈ l, q.Ok) ∧ Rg w r.a r.cap l
theorem AllP.keep {S : Nat → Prop} {w w' : World} {m : List Sl} (h : AllP w m) (k : Keep S w w') (hs : ∀ r ∈ m, ∀ x : Addr, r.a = some x → ¬ S x.block) : AllP w' m := fun r hr => by
  obtain ⟨l, h1, h2, h3, h4, h5⟩ := h r hr
  exact ⟨l, h1, h2, h3, h4, h5.keep k (fun g o e _ => hs r hr ⟨g, o, none⟩ e)⟩
theorem AllP.more {w w' : World} {m : List Sl} (h : AllP w m) (k : Keep (fun _ => False) w w') : AllP w' m := h.keep k (fun _ _ _ _ e => e)
theorem AllP.lt {w : World} {m : List Sl} (h : AllP w m) {r : Sl} (hr : r ∈ m) {x : Addr} (e : r.a = some x) : x.block < w.heap.size := by
  obtain ⟨l, h1, h2, h3, h4, h5⟩ := h r hr
  obtain ⟨p, hp⟩ := get_pg (l := l) (i := 0) (by omega)
  obtain ⟨g, o, e2, hc⟩ := h5.at hp
  have := World.block_lt_of_cell? w _ (hc 0 (by omega))
  rw [e] at e2
  injection e2 with e2
  subst e2
  exact this
/-- No slice lies where the row of slices lies. -/
def Sep (aa : Option Addr) (m : List Sl) : Prop := ∀ r ∈ m, ∀ x : Addr, r.a = some x → ¬ aa = some ⟨x.block, 0, none⟩
theorem Sep.snoc {w w6 : World} {aa a9 a6 : Option Addr} {n c : Nat} {m : List Sl} (h : Sep aa m) (hp : AllP w m) (hsz : w.heap.size ≤ w6.heap.size) (h9 : a9 = aa ∨ ∃ g, a9 = some ⟨g, 0, none⟩ ∧ w6.heap.size ≤ g) (haa : ∀ g, aa = some ⟨g, 0, none⟩ → g < w.heap.size) (h6 : ∀ x : Addr, a6 = some x → w.heap.size ≤ x.block ∧ x.block < w6.heap.size) : Sep a9 (m ++ [⟨a6, n, c⟩]) := by
  intro r hr x hx e
  rcases List.mem_append.1 hr with hr | hr
  · rcases h9 with rfl | ⟨g, rfl, hg⟩
    · exact h r hr x hx e
    · injection e with e
      injection e with e
      have := hp.lt hr hx
      omega
  · obtain rfl := List.mem_singleton.1 hr
    have h6' := h6 x hx
    rcases h9 with rfl | ⟨g, rfl, hg⟩
    · have := haa _ e
      omega
    · injection e with e
      injection e with e
      omega
def pg9 : Pg := ⟨9, 0, 0, 0, 0, 0, 0, List.replicate 32 0⟩
theorem pg9_lit : pgA pg9 = #[.int .i64 9, .int .u32 0, .int .u32 0, .int .u32 0, .int .u32 0, .int .u32 0, .int .u32 0, .int .u8 0, .int .u8 0, .int .u8 0, .int .u8 0, .int .u8 0, .int .u8 0, .int .u8 0, .int .u8 0, .int .u8 0, .int .u8 0, .int .u8 0, .int .u8 0, .int .u8 0, .int .u8 0, .int .u8 0, .int .u8 0, .int .u8 0, .int .u8 0, .int .u8 0, .int .u8 0, .int .u8 0, .int .u8 0, .int .u8 0, .int .u8 0, .int .u8 0, .int .u8 0, .int .u8 0, .int .u8 0, .int .u8 0, .int .u8 0, .int .u8 0, .int .u8 0] := rfl
end Tg
end Go.Proofs.Ytginnojbmpnleaa
