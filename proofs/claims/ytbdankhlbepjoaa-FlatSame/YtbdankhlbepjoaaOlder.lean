/-
  Maps made since an elder world; variables that hold a call.
-/
import Derived.Test.YtbdankhlbepjoaaOneR
namespace Go.Proofs.Ytbdankhlbepjoaa
open Go.ChangeShapes Go.WideShapes Go.ChangeAt Go.RowKit
namespace Tg

theorem Mt.older {w w0 wr : World} {b p k N : Nat} {l : List Nat} {t : Tr} (h : Mt w wr b p k N l t) (hk : Keep (fun _ => False) w0 w) : Mt w0 wr b p k N l t :=
  ⟨h.ex, by have := h.b; have := hk.size; omega, by have := h.p; have := hk.size; omega, by have := h.k; have := hk.size; omega, hk.trans h.keep⟩
theorem Mp.older {w w0 wr : World} {q b p k N cap : Nat} {m : List Rn} (h : Mp w wr q b p k N cap m) (hk : Keep (fun _ => False) w0 w) : Mp w0 wr q b p k N cap m := by
  obtain ⟨l, t, hT, e⟩ := h.ex
  exact ⟨⟨l, t, hT.older hk, e⟩, h.top, by have := h.qw; have := hk.size; omega, h.qb, h.qp, h.qk, h.form, h.lim, h.cap1, h.cap2, h.N1, h.N2⟩
theorem Mp.blocks {w wr : World} {q b p k N cap : Nat} {m : List Rn} (h : Mp w wr q b p k N cap m) : w.heap.size ≤ q ∧ w.heap.size ≤ b ∧ w.heap.size ≤ p ∧ w.heap.size ≤ k := by
  obtain ⟨l, t, hT, e⟩ := h.ex
  exact ⟨h.qw, hT.b, hT.p, hT.k⟩
theorem Keep.cell {w w' : World} (k : Keep (fun _ => False) w w') {a : Addr} {v : Value} (h : w.cell? a = some v) : w'.cell? a = some v := by
  rw [← h]
  exact World.cell?_of_block (w := w) (k.block a.block (World.block_lt_of_cell? w _ h) (fun e => e))
/-- A variable of the call's own that holds a call. -/
def Lact (w : World) (g : Nat) (f : Nat → Int) : Prop := Blk w g 4 (fun j => .int .i64 (f j))
theorem Lact.new (w : World) (f : Nat → Int) : Lact (w.alloc (.cells (actA f) 34)) w.heap.size f := blk_alloc w _ 34 4 _ (fun i hi => by rcases four hi with rfl | rfl | rfl | rfl <;> rfl)
theorem Lact.more {w w' : World} {g : Nat} {f : Nat → Int} (h : Lact w g f) (hk : Keep (fun _ => False) w w') : Lact w' g f := Blk.keep h hk (fun e => e)
theorem Lact.c {w : World} {g : Nat} {f : Nat → Int} (h : Lact w g f) : w.cell? ⟨g, 0, none⟩ = some (.int .i64 (f 0)) ∧ w.cell? ⟨g, 1, none⟩ = some (.int .i64 (f 1)) ∧ w.cell? ⟨g, 2, none⟩ = some (.int .i64 (f 2)) ∧ w.cell? ⟨g, 3, none⟩ = some (.int .i64 (f 3)) :=
  ⟨(h 0 (by omega)).1, (h 1 (by omega)).1, (h 2 (by omega)).1, (h 3 (by omega)).1⟩

end Tg
end Go.Proofs.Ytbdankhlbepjoaa
