/-
  The landed detector: what it finds and how it keeps the order, as mathematics; its memory.
-/
import Derived.Test.YthfbfepaoknmfaaSf
namespace Go.Proofs.Ythfbfepaoknmfaa
open Go.ChangeShapes Go.WideShapes Go.ChangeAt Go.RowKit
namespace Tg
theorem St.Ok.odl {s : St} {n : Nat} (h : s.Ok n) : s.od.length = n := by
  have := (List.perm_ext_iff_of_nodup h.nd List.nodup_range).2 (fun a => by rw [h.mem a, List.mem_range])
  rw [this.length_eq, List.length_range]
theorem getN {l : List Nat} {i : Nat} (h : i < l.length) : l[i]? = some (l.getD i 0) := by
  rw [List.getD_eq_getElem?_getD, List.getElem?_eq_getElem h]
  rfl
theorem St.Ok.od_lt {s : St} {n : Nat} (h : s.Ok n) {i : Nat} (hi : i < n) : s.od.getD i 0 < n := (h.mem _).1 (List.mem_of_getElem? (getN (by rw [h.odl]; exact hi)))
/-- A list cut at a place. -/
theorem cut_at {l : List Nat} {k : Nat} (h : k < l.length) : l = l.take k ++ l.getD k 0 :: l.drop (k + 1) := by
  have e := getN h
  rw [List.getElem?_eq_some_iff] at e
  obtain ⟨h', e⟩ := e
  rw [← e, List.getElem_cons_drop, List.take_append_drop]
/-- The stream that a command belongs to lies at the last place that expects it, or at the first of all. -/
theorem pos_at {s : St} {lba : Int} {k : Nat} (hk : k < s.od.length) (hB : ∀ j, k < j → j < s.od.length → s.ex[s.od.getD j 0]? ≠ some lba) (h0 : k = 0 ∨ s.ex[s.od.getD k 0]? = some lba) :
    s.pos lba = s.od.getD k 0 ∧ s.len lba = (if s.ex[s.od.getD k 0]? = some lba then s.lg.getD (s.od.getD k 0) 0 + 1 else 1) := by
  have hc := cut_at hk
  have hn : (s.od.drop (k + 1)).reverse.find? (fun i => decide (s.ex[i]? = some lba)) = none := by
    rw [List.find?_eq_none]
    intro i hi
    obtain ⟨j, hj⟩ := List.getElem?_of_mem (List.mem_reverse.1 hi)
    rw [List.getElem?_drop] at hj
    have hl := (List.getElem?_eq_some_iff.1 hj).1
    have := hB (k + 1 + j) (by omega) hl
    rw [getN hl] at hj
    injection hj with hj
    rw [hj] at this
    simpa using this
  have hh : s.hit lba = if s.ex[s.od.getD k 0]? = some lba then some (s.od.getD k 0) else none := by
    unfold St.hit
    by_cases hm : s.ex[s.od.getD k 0]? = some lba
    · rw [if_pos hm]
      generalize ha : s.od.getD k 0 = a at *
      rw [hc, List.reverse_append, List.reverse_cons, List.append_assoc, List.find?_append, hn]
      simp [hm]
    · rw [if_neg hm]
      have h0 : k = 0 := h0.resolve_right hm
      subst h0
      generalize ha : s.od.getD 0 0 = a at *
      rw [hc, List.reverse_append, List.reverse_cons, List.append_assoc, List.find?_append, hn]
      simp [hm]
  constructor
  · unfold St.pos
    rw [hh]
    by_cases hm : s.ex[s.od.getD k 0]? = some lba
    · rw [if_pos hm]; rfl
    · rw [if_neg hm]
      have h0 : k = 0 := h0.resolve_right hm
      subst h0
      cases ho : s.od <;> rfl
  · unfold St.len
    rw [hh]
    by_cases hm : s.ex[s.od.getD k 0]? = some lba
    · rw [if_pos hm, if_pos hm]
    · rw [if_neg hm, if_neg hm]
/-- The order behind a use. -/
theorem use_at {l : List Nat} (nd : l.Nodup) {k : Nat} (hk : k < l.length) {i : Nat} (hi : i < l.length) :
    (l.erase (l.getD k 0) ++ [l.getD k 0]).getD i 0 = if i = l.length - 1 then l.getD k 0 else if k ≤ i ∧ i < k + (l.length - 1 - k) then l.getD (i + 1) 0 else l.getD i 0 := by
  have hc := cut_at hk
  have hni : l.getD k 0 ∉ l.take k := fun hm => by
    have nd2 := nd
    rw [hc, List.nodup_append] at nd2
    exact nd2.2.2 _ hm _ (by simp) rfl
  have he : l.erase (l.getD k 0) = l.take k ++ l.drop (k + 1) := by
    generalize ha : l.getD k 0 = a at *
    conv => lhs; rw [hc]
    rw [List.erase_append_right _ hni, List.erase_cons_head]
  rw [he]
  have h1 : (l.take k ++ l.drop (k + 1)).length = l.length - 1 := by simp; omega
  by_cases e : i = l.length - 1
  · rw [if_pos e, List.getD_eq_getElem?_getD, List.getElem?_append_right (by omega), h1, e, Nat.sub_self]; rfl
  · rw [if_neg e, List.getD_eq_getElem?_getD, List.getElem?_append_left (by omega)]
    have ht : (l.take k).length = k := by simp; omega
    by_cases e2 : k ≤ i
    · rw [if_pos (by omega), List.getElem?_append_right (by omega), ht, List.getElem?_drop, show k + 1 + (i - k) = i + 1 by omega, List.getD_eq_getElem?_getD]
    · rw [if_neg (by omega), List.getElem?_append_left (by omega), List.getElem?_take, if_pos (by omega), List.getD_eq_getElem?_getD]
/-- A stream's two numbers. -/
def sc (s : St) : Nat → Value := fun i => .int .i64 (if i % 2 = 0 then s.ex.getD (i / 2) 0 else s.lg.getD (i / 2) 0)
def oc (s : St) : Nat → Value := fun i => .int .i64 ((s.od.getD i 0 : Nat) : Int)
def tc (g h n : Nat) : Nat → Value := fun i => if i = 0 then .slice (some ⟨g, 0, none⟩) n n else .slice (some ⟨h, 0, none⟩) n n
/-- The program's detector lies in block p, its streams in g, their order in h, all made since w0. -/
structure Dt (w0 w : World) (p g h n : Nat) (s : St) : Prop where
  top : Blk w p 2 (tc g h n)
  st : Blk w g (n * 2) (sc s)
  od : Blk w h n (oc s)
  pg : p ≠ g
  ph : p ≠ h
  gh : g ≠ h
  oldp : w0.heap.size ≤ p
  oldg : w0.heap.size ≤ g
  oldh : w0.heap.size ≤ h
  keep : Keep (fun _ => False) w0 w
  ok : s.Ok n
/-- The blocks that a command writes. -/
def DtB (g h : Nat) (b : Nat) : Prop := b = g ∨ b = h
theorem Dt.other {S : Nat → Prop} {w0 w w' : World} {p g h n : Nat} {s : St} (d : Dt w0 w p g h n s) (k : Keep S w w') (h1 : ¬ S p) (h2 : ¬ S g) (h3 : ¬ S h) (h0 : Keep (fun _ => False) w0 w') : Dt w0 w' p g h n s :=
  ⟨Blk.keep d.top k h1, Blk.keep d.st k h2, Blk.keep d.od k h3, d.pg, d.ph, d.gh, d.oldp, d.oldg, d.oldh, h0, d.ok⟩
theorem Dt.more {w0 w w' : World} {p g h n : Nat} {s : St} (d : Dt w0 w p g h n s) (k : Keep (fun _ => False) w w') : Dt w0 w' p g h n s := d.other k (fun e => e) (fun e => e) (fun e => e) (d.keep.trans k)
theorem Dt.older {w0 w1 w : World} {p g h n : Nat} {s : St} (d : Dt w1 w p g h n s) (k : Keep (fun _ => False) w0 w1) : Dt w0 w p g h n s :=
  ⟨d.top, d.st, d.od, d.pg, d.ph, d.gh, Nat.le_trans k.size d.oldp, Nat.le_trans k.size d.oldg, Nat.le_trans k.size d.oldh, k.trans d.keep, d.ok⟩
theorem Dt.t0 {w0 w : World} {p g h n : Nat} {s : St} (d : Dt w0 w p g h n s) : w.cell? ⟨p, 0, none⟩ = some (.slice (some ⟨g, 0, none⟩) n n) := (d.top 0 (by omega)).1
theorem Dt.t1 {w0 w : World} {p g h n : Nat} {s : St} (d : Dt w0 w p g h n s) : w.cell? ⟨p, 1, none⟩ = some (.slice (some ⟨h, 0, none⟩) n n) := (d.top 1 (by omega)).1
theorem Dt.ex {w0 w : World} {p g h n : Nat} {s : St} (d : Dt w0 w p g h n s) {i : Nat} (hi : i < n) : w.cell? ⟨g, i * 2, none⟩ = some (.int .i64 (s.ex.getD i 0)) ∧ w.frozen? ⟨g, i * 2, none⟩ = false := by
  have := d.st (i * 2) (by omega)
  unfold sc at this
  rwa [if_pos (by omega), show i * 2 / 2 = i by omega] at this
theorem Dt.lg {w0 w : World} {p g h n : Nat} {s : St} (d : Dt w0 w p g h n s) {i : Nat} (hi : i < n) : w.cell? ⟨g, i * 2 + 1, none⟩ = some (.int .i64 (s.lg.getD i 0)) ∧ w.frozen? ⟨g, i * 2 + 1, none⟩ = false := by
  have := d.st (i * 2 + 1) (by omega)
  unfold sc at this
  rwa [if_neg (by omega), show (i * 2 + 1) / 2 = i by omega] at this
theorem Dt.use {w0 w : World} {p g h n : Nat} {s : St} (d : Dt w0 w p g h n s) {i : Nat} (hi : i < n) : w.cell? ⟨h, i, none⟩ = some (.int .i64 ((s.od.getD i 0 : Nat) : Int)) ∧ w.frozen? ⟨h, i, none⟩ = false := d.od i hi
theorem Dt.le {w0 w : World} {p g h n : Nat} {s : St} (d : Dt w0 w p g h n s) : 1 ≤ n := d.ok.pos
theorem Dt.lt {w0 w : World} {p g h n : Nat} {s : St} (d : Dt w0 w p g h n s) : p < w.heap.size ∧ g < w.heap.size ∧ h < w.heap.size :=
  ⟨Blk.lt d.top (by omega), Blk.lt d.st (by have := d.le; omega), Blk.lt d.od (by have := d.le; omega)⟩
end Tg
end Go.Proofs.Ythfbfepaoknmfaa
