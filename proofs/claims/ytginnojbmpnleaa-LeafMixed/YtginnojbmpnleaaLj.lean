/-
  The threes in order, as the document's own Join finds them; the streams that it tells.
-/
import Derived.Test.YtginnojbmpnleaaLw
namespace Go.Proofs.Ytginnojbmpnleaa
open Go.ChangeShapes Go.WideShapes Go.ChangeAt Go.RowKit
namespace Tg
/-- Is a page one of a stream? -/
def isK (p : Pg) : Prop := p.kind = 2 ∨ p.kind = 3
theorem ah_iff {p q : Pg} : ahB p q = true ↔ (p.ep < q.ep ∨ (p.ep = q.ep ∧ (p.kind < q.kind ∨ (p.kind = q.kind ∧ p.gr < q.gr)))) := by
  unfold ahB
  split
  · next h =>
    split
    · next h2 => rw [decide_eq_true_iff]; omega
    · next h2 => rw [decide_eq_true_iff]; omega
  · next h => rw [decide_eq_true_iff]; omega
theorem ah_trans {a b c : Pg} (h1 : ahB a b = true) (h2 : ahB b c = true) : ahB a c = true := by
  rw [ah_iff] at *
  omega
theorem ah_irr (a : Pg) : ahB a a = false := (ah_same.2 ⟨rfl, rfl, rfl⟩).1
/-- The first pages of their threes, in order. -/
structure Fst (l fs : List Pg) : Prop where
  sorted : fs.Pairwise (fun x y => ahB x y = true)
  from_ : ∀ x ∈ fs, x ∈ l ∧ isK x
  all : ∀ q ∈ l, isK q → ∃ x ∈ fs, sameP x q
theorem Fst.nil : Fst [] [] := ⟨List.Pairwise.nil, (fun x hx => by cases hx), (fun q hq => by cases hq)⟩
theorem Fst.skip {l fs : List Pg} (h : Fst l fs) {q : Pg} (hq : ¬ isK q) : Fst (l ++ [q]) fs :=
  ⟨h.sorted, fun x hx => ⟨by simp [(h.from_ x hx).1], (h.from_ x hx).2⟩, fun y hy hk => by
    rcases List.mem_append.1 hy with h1 | h1
    · exact h.all y h1 hk
    · simp at h1; subst h1; exact absurd hk hq⟩
theorem Fst.same {l fs : List Pg} (h : Fst l fs) {q x : Pg} (hx : x ∈ fs) (hs : sameP x q) : Fst (l ++ [q]) fs :=
  ⟨h.sorted, fun x hx => ⟨by simp [(h.from_ x hx).1], (h.from_ x hx).2⟩, fun y hy hk => by
    rcases List.mem_append.1 hy with h1 | h1
    · exact h.all y h1 hk
    · simp at h1; subst h1; exact ⟨x, hx, hs⟩⟩
theorem Fst.ins {l fs : List Pg} (h : Fst l fs) {q : Pg} (hq : isK q) {t : Nat} (h1 : ∀ j x, j < t → fs[j]? = some x → ahB x q = true) (h2 : ∀ x, fs[t]? = some x → ahB q x = true) : Fst (l ++ [q]) (fs.take t ++ [q] ++ fs.drop t) := by
  have ha : ∀ x ∈ fs.take t, ahB x q = true := fun x hx => by
    obtain ⟨j, hj, e⟩ := List.mem_iff_getElem.1 hx
    have hj' : j < t := by have := hj; simp at this; omega
    refine h1 j x hj' ?_
    rw [List.getElem?_eq_some_iff]
    have : j < fs.length := by have := hj; simp at this; omega
    exact ⟨this, by rw [← e]; simp⟩
  have hb : ∀ x ∈ fs.drop t, ahB q x = true := fun x hx => by
    cases hd : fs.drop t with
    | nil => rw [hd] at hx; cases hx
    | cons y r =>
      have hy : fs[t]? = some y := by
        have := congrArg (fun m => m[0]?) hd
        simpa [List.getElem?_drop] using this
      have hqy := h2 y hy
      rw [hd] at hx
      rcases List.mem_cons.1 hx with rfl | hx
      · exact hqy
      · have hp := (List.pairwise_append.1 (by rw [List.take_append_drop]; exact h.sorted : (fs.take t ++ fs.drop t).Pairwise (fun x y => ahB x y = true))).2.1
        rw [hd] at hp
        exact ah_trans hqy ((List.pairwise_cons.1 hp).1 x hx)
  have hsp := List.pairwise_append.1 (by rw [List.take_append_drop]; exact h.sorted : (fs.take t ++ fs.drop t).Pairwise (fun x y => ahB x y = true))
  refine ⟨?_, fun x hx => ?_, fun y hy hk => ?_⟩
  · rw [List.append_assoc]
    refine List.pairwise_append.2 ⟨hsp.1, ?_, fun x hx y hy => ?_⟩
    · exact List.pairwise_append.2 ⟨List.pairwise_singleton _ _, hsp.2.1, fun x hx y hy => by simp at hx; subst hx; exact hb y hy⟩
    · rcases List.mem_append.1 hy with h3 | h3
      · simp at h3; subst h3; exact ha x hx
      · exact hsp.2.2 x hx y h3
  · rw [List.append_assoc] at hx
    rcases List.mem_append.1 hx with h3 | h3
    · have := h.from_ x (List.mem_of_mem_take h3); exact ⟨by simp [this.1], this.2⟩
    · rcases List.mem_append.1 h3 with h4 | h4
      · simp at h4; subst h4; exact ⟨by simp, hq⟩
      · have := h.from_ x (List.mem_of_mem_drop h4); exact ⟨by simp [this.1], this.2⟩
  · rcases List.mem_append.1 hy with h3 | h3
    · obtain ⟨x, hx, hs⟩ := h.all y h3 hk
      refine ⟨x, ?_, hs⟩
      rw [← List.take_append_drop t fs] at hx
      rw [List.append_assoc]
      rcases List.mem_append.1 hx with h4 | h4
      · simp [h4]
      · simp [h4]
    · simp at h3; subst h3
      exact ⟨y, by simp, rfl, rfl, rfl⟩
/-- The streams of the first threes. -/
def Told (l fs : List Pg) (L : List St) : Prop := L.Pairwise keyLt ∧ ∀ s, s ∈ L ↔ Whole l s ∧ ∃ x ∈ fs, sameK x s
theorem Told.nil (l : List Pg) : Told l [] [] := ⟨List.Pairwise.nil, fun s => ⟨(fun h => by cases h), (fun ⟨_, x, hx, _⟩ => by cases hx)⟩⟩
theorem Told.no {l fs : List Pg} {L : List St} (h : Told l fs L) {p : Pg} (hno : NoW l p) : Told l (fs ++ [p]) L := by
  refine ⟨h.1, fun s => (h.2 s).trans ⟨fun ⟨hw, x, hx, hk⟩ => ⟨hw, x, by simp [hx], hk⟩, fun ⟨hw, x, hx, hk⟩ => ?_⟩⟩
  rcases List.mem_append.1 hx with h1 | h1
  · exact ⟨hw, x, h1, hk⟩
  · simp at h1; subst h1; exact absurd hw (hno s hk)
theorem Told.yes {l fs : List Pg} {L : List St} (h : Told l fs L) {p : Pg} (hs : (fs ++ [p]).Pairwise (fun x y => ahB x y = true)) {b : List Int} (hw : Whole l ⟨p.kind, p.ep, p.gr, b⟩) : Told l (fs ++ [p]) (L ++ [⟨p.kind, p.ep, p.gr, b⟩]) := by
  have hp := List.pairwise_append.1 hs
  refine ⟨List.pairwise_append.2 ⟨h.1, List.pairwise_singleton _ _, fun s hs t ht => ?_⟩, fun s => ?_⟩
  · simp at ht
    subst ht
    obtain ⟨-, x, hx, hk⟩ := (h.2 s).1 hs
    have := ah_iff.1 (hp.2.2 x hx p (by simp))
    obtain ⟨k1, k2, k3⟩ := hk
    unfold keyLt
    simp only
    omega
  · rw [List.mem_append]
    constructor
    · rintro (h1 | h1)
      · obtain ⟨hw1, x, hx, hk⟩ := (h.2 s).1 h1
        exact ⟨hw1, x, by simp [hx], hk⟩
      · simp at h1; subst h1
        exact ⟨hw, p, by simp, rfl, rfl, rfl⟩
    · rintro ⟨hw1, x, hx, hk⟩
      rcases List.mem_append.1 hx with h1 | h1
      · exact Or.inl ((h.2 s).2 ⟨hw1, x, h1, hk⟩)
      · simp at h1; subst h1
        right
        simp
        exact whole_one hw1 hw ⟨hk.1.symm, hk.2.1.symm, hk.2.2.symm⟩
theorem Told.join {l fs : List Pg} {L : List St} (h : Told l fs L) (hf : Fst l fs) : JoinS l L := by
  refine ⟨h.1, fun s => (h.2 s).trans ⟨fun h => h.1, fun hw => ⟨hw, ?_⟩⟩⟩
  obtain ⟨q, hq⟩ := cut_not_nil s
  obtain ⟨p, hp, hk, -⟩ := (hw.2 q).1 hq
  obtain ⟨x, hx, hs⟩ := hf.all p hp (by have := hw.1.kind; rw [← hk.1] at this; exact this)
  exact ⟨x, hx, sameK_of hs hk⟩
/-- A row's first pages. -/
theorem Rg.first {w : World} {a : Option Addr} {cap : Nat} {l : List Pg} (h : Rg w a cap l) (t : Nat) : Rg w a cap (l.take t) := by
  obtain ⟨h1, h2, h3⟩ := h
  refine ⟨by rw [List.length_take]; omega, h2, ?_⟩
  rcases h3 with rfl | ⟨g, o, e, hc⟩
  · left; simp
  · right
    refine ⟨g, o, e, fun i p hp j hj => hc i p ?_ j hj⟩
    rw [List.getElem?_take] at hp
    split at hp
    · exact hp
    · cases hp
/-- Where a row of pages begins that is cut at t. -/
def cutP (a : Option Addr) (cap t : Nat) : Option Addr := if cap = t then a else a.map (·.add (t * 39))
theorem Rg.cut {w : World} {a : Option Addr} {cap : Nat} {l : List Pg} (h : Rg w a cap l) {t : Nat} (ht : t ≤ l.length) : Rg w (cutP a cap t) (cap - t) (l.drop t) := by
  obtain ⟨h1, h2, h3⟩ := h
  refine ⟨by rw [List.length_drop]; omega, by omega, ?_⟩
  by_cases hl : l.drop t = []
  · exact Or.inl hl
  · right
    have hlt : t < l.length := by
      refine Decidable.byContradiction (fun c => hl (List.drop_eq_nil_of_le (by omega)))
    rcases h3 with rfl | ⟨g, o, rfl, hc⟩
    · simp at hlt
    · refine ⟨g, o + t * 39, ?_, fun i p hp j hj => ?_⟩
      · unfold cutP
        rw [if_neg (by omega), Option.map_some, Addr.add_lit]
      · rw [List.getElem?_drop] at hp
        have := hc (t + i) p hp j hj
        rw [show o + t * 39 + i * 39 + j = o + (t + i) * 39 + j by omega]
        exact this
theorem first_run (w : World) (a : Option Addr) {len cap t : Nat} (ht : t ≤ cap) : (Instr.sliceAt 23 (.slice a len cap) none (some (.int .i64 (t : Int))) none).run Try.prog w = .ok (.slice a t cap) w := by
  obtain ⟨i, z, hi, hz0, hz1, hz2, hz3⟩ := inf33
  have e : Option.map (fun x => Addr.add x 0) a = a := by cases a <;> simp [Addr.add]
  simp [Instr.sliceAt, Instr.slice, Instr.sliceBounds, Instr.sliceBound, run_underlying Try.underlying23, sizeOf, typeInfo, hi, asIntOf, ht, e]
theorem rest_run (w : World) (a : Option Addr) {len cap t : Nat} (ht : t ≤ len) : (Instr.sliceAt 23 (.slice a len cap) (some (.int .i64 (t : Int))) none none).run Try.prog w = .ok (.slice (cutP a cap t) (len - t) (cap - t)) w := by
  obtain ⟨i, z, hi, hz0, hz1, hz2, hz3⟩ := inf33
  simp [Instr.sliceAt, Instr.slice, Instr.sliceBounds, Instr.sliceBound, run_underlying Try.underlying23, sizeOf, typeInfo, hi, hz1, asIntOf, ht, cutP]
theorem pcells_get : ∀ {l : List Pg} {j : Nat} {u : Value}, (pcells l)[j]? = some u → ∃ p, l[j / 39]? = some p ∧ u = pcl p (j % 39)
  | [], j, u, h => by simp [pcells] at h
  | y :: l, j, u, h => by
    rw [show pcells (y :: l) = (pgA y).toList ++ pcells l from rfl] at h
    by_cases c : j < 39
    · rw [List.getElem?_append_left (by rw [pgA_len]; exact c)] at h
      refine ⟨y, by rw [show j / 39 = 0 by omega]; rfl, ?_⟩
      have e : (pgA y).toList[j]? = some (pcl y j) := by simp [pgA, c]
      rw [e] at h
      injection h with h
      rw [← h, show j % 39 = j by omega]
    · rw [List.getElem?_append_right (by rw [pgA_len]; omega), pgA_len] at h
      obtain ⟨p, h1, h2⟩ := pcells_get h
      exact ⟨p, by rw [show j / 39 = (j - 39) / 39 + 1 by omega]; exact h1, by rw [h2]; congr 1; omega⟩
theorem Rg.hcells {w : World} {x : Addr} {cap : Nat} {l : List Pg} (h : Rg w (some x) cap l) : ∀ j u, (pcells l)[j]? = some u → w.cell? (x.add j) = some u := fun j u hu => by
  obtain ⟨p, hp, e⟩ := pcells_get hu
  obtain ⟨g, o, e2, hc⟩ := h.at hp
  injection e2 with e2
  subst e2
  have := hc (j % 39) (by omega)
  rw [Addr.add_lit, e, ← this]
  congr 2
  omega
/-- A row behind a row of one's own, whatever it is. -/
theorem Ro.appZ {w0 w : World} {a b : Option Addr} {cap c : Nat} {m ns : List Pg} (h : Ro w0 w a cap m) (hz : Rg w b c ns) (hb : b = none → ns = [] ∧ c = 0) (hl : m.length + ns.length ≤ 1000000) :
    ∃ a' cap' w', (Builtin.append_ #[23, 23] 23 #[.slice a m.length cap, .slice b ns.length c]).run Try.prog w = .ok (.slice a' (m.length + ns.length) cap') w' ∧ Ro w0 w' a' cap' (m ++ ns) ∧ Keep (fun b => a = some ⟨b, 0, none⟩) w w' ∧ (a' = a ∨ ∃ g, a' = some ⟨g, 0, none⟩ ∧ w.heap.size ≤ g) := by
  cases b with
  | none =>
    obtain ⟨rfl, rfl⟩ := hb rfl
    obtain ⟨i, z, hi, hz0, hz1, hz2, hz3⟩ := inf33
    have := run_append_owned_none (P := Try.prog) w w0.heap.size 23 23 33 i 39 Try.underlying23 hi (.slice a m.length cap) m.length (pcells m) h.own
    exact ⟨a, cap, w, this, by rw [List.append_nil]; exact h, Keep.refl _ _, Or.inl rfl⟩
  | some x => exact h.appN x c ns hl hz.hcells
theorem Ro.none_cap {w0 w : World} {cap : Nat} {m : List Pg} (h : Ro w0 w none cap m) : m = [] ∧ cap = 0 := by
  rcases h.own.2 with ⟨e, hn⟩ | ⟨g, c', cur, e, -⟩
  · injection e with e1 e2 e3
    exact ⟨List.eq_nil_of_length_eq_zero hn, e3⟩
  · injection e with e1; cases e1
end Tg
end Go.Proofs.Ytginnojbmpnleaa
