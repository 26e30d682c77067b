/-
  The document's own flash in memory, its steps and failures: held against the same mathematics.
-/
import Derived.Test.YtjafjofonckaaaaAwake
namespace Go.Proofs.Ytjafjofonckaaaa
open Go.ChangeShapes Go.WideShapes Go.ChangeAt Go.RowKit
namespace Nd

/-- Where the document's own flash lies: the struct, the bytes, and three rows. -/
structure Pl where
  p : Nat
  y : Nat
  b : Nat
  t : Nat
  n : Nat

def Pl.own (l : Pl) : Nat → Prop := fun x => x = l.p ∨ x = l.y ∨ x = l.b ∨ x = l.t ∨ x = l.n

/-- The struct's twelve cells; x stands in the cell of its cut. -/
def refCell (l : Pl) (s : Fl) (x : Int) : Nat → Value
  | 0 => .int .i64 s.B
  | 1 => .int .i64 s.P
  | 2 => .slice (some ⟨l.y, 0, none⟩) (s.B * s.P * 68) (s.B * s.P * 68)
  | 3 => .slice (some ⟨l.b, 0, none⟩) s.B s.B
  | 4 => .slice (some ⟨l.t, 0, none⟩) s.B s.B
  | 5 => .slice (some ⟨l.n, 0, none⟩) s.B s.B
  | 6 => .int .i64 x
  | 7 => .int .i64 s.fail
  | 8 => .bool s.on
  | 9 => .int .i64 s.reads
  | 10 => .int .i64 s.progs
  | _ => .int .i64 s.erases

structure Pl.Apart (l : Pl) : Prop where
  py : l.p ≠ l.y
  pb : l.p ≠ l.b
  pt : l.p ≠ l.t
  pn : l.p ≠ l.n
  yb : l.y ≠ l.b
  yt : l.y ≠ l.t
  yn : l.y ≠ l.n
  bt : l.b ≠ l.t
  bn : l.b ≠ l.n
  tn : l.t ≠ l.n

/-- The document's own flash in memory. -/
structure RM (w : World) (l : Pl) (s : Fl) (x : Int) : Prop where
  top : Blk w l.p 12 (refCell l s x)
  cel : Blk w l.y (s.B * s.P * 68) (fun i => .int .u8 (s.cell i))
  bad : Blk w l.b s.B (fun i => .bool (s.bad i))
  torn : Blk w l.t s.B (fun i => .bool (s.torn i))
  next : Blk w l.n s.B (fun i => .int .i64 (s.next i))
  ap : l.Apart

theorem ref_split {i : Nat} (h : i < 12) : i = 0 ∨ i = 1 ∨ i = 2 ∨ i = 3 ∨ i = 4 ∨ i = 5 ∨ i = 6 ∨ i = 7 ∨ i = 8 ∨ i = 9 ∨ i = 10 ∨ i = 11 := by omega

theorem RM.keep {S : Nat → Prop} {w w' : World} {l : Pl} {s : Fl} {x : Int} (h : RM w l s x) (e : Keep S w w') (hs : ∀ b, l.own b → ¬ S b) : RM w' l s x :=
  ⟨h.top.keep e (hs _ (Or.inl rfl)), h.cel.keep e (hs _ (Or.inr (Or.inl rfl))), h.bad.keep e (hs _ (Or.inr (Or.inr (Or.inl rfl)))), h.torn.keep e (hs _ (Or.inr (Or.inr (Or.inr (Or.inl rfl))))), h.next.keep e (hs _ (Or.inr (Or.inr (Or.inr (Or.inr rfl))))), h.ap⟩
theorem RM.drew {w : World} {l : Pl} {s : Fl} {x : Int} (h : RM w l s x) : RM w.drew l s x := h.keep (Keep.refl (fun _ => False) w).drew (fun _ _ e => e)
theorem RM.drewN {w : World} {l : Pl} {s : Fl} {x : Int} (h : RM w l s x) (n : Nat) : RM (w.drewN n) l s x := h.keep ((Keep.refl (fun _ => False) w).drewN n) (fun _ _ e => e)
theorem RM.congr {w : World} {l : Pl} {s t : Fl} {x : Int} (h : RM w l s x) (e : s = t) : RM w l t x := e ▸ h

theorem RM.setTop {w : World} {l : Pl} {s t : Fl} {x y : Int} (h : RM w l s x) (j : Nat) (v : Value) (e : ∀ i, i < 12 → (if i = j then v else refCell l s x i) = refCell l t y i)
    (hB : t.B = s.B) (hP : t.P = s.P) (hc : t.cell = s.cell) (hb : t.bad = s.bad) (ht : t.torn = s.torn) (hn : t.next = s.next) : RM (w.setCell ⟨l.p, j, none⟩ v) l t y :=
  ⟨(h.top.set j v).congr e, by rw [hB, hP, hc]; exact h.cel.other (a := ⟨l.p, j, none⟩) (Ne.symm h.ap.py) v, by rw [hB, hb]; exact h.bad.other (a := ⟨l.p, j, none⟩) (Ne.symm h.ap.pb) v, by rw [hB, ht]; exact h.torn.other (a := ⟨l.p, j, none⟩) (Ne.symm h.ap.pt) v,
    by rw [hB, hn]; exact h.next.other (a := ⟨l.p, j, none⟩) (Ne.symm h.ap.pn) v, h.ap⟩
theorem RM.setCut {w : World} {l : Pl} {s : Fl} {x : Int} (h : RM w l s x) (y : Int) : RM (w.setCell ⟨l.p, 6, none⟩ (.int .i64 y)) l s y :=
  h.setTop 6 _ (fun i hi => by rcases ref_split hi with rfl | rfl | rfl | rfl | rfl | rfl | rfl | rfl | rfl | rfl | rfl | rfl <;> simp [refCell]) rfl rfl rfl rfl rfl rfl
theorem RM.setFail {w : World} {l : Pl} {s : Fl} {x : Int} (h : RM w l s x) (y : Int) : RM (w.setCell ⟨l.p, 7, none⟩ (.int .i64 y)) l { s with fail := y } x :=
  h.setTop 7 _ (fun i hi => by rcases ref_split hi with rfl | rfl | rfl | rfl | rfl | rfl | rfl | rfl | rfl | rfl | rfl | rfl <;> simp [refCell]) rfl rfl rfl rfl rfl rfl
theorem RM.setOn {w : World} {l : Pl} {s : Fl} {x : Int} (h : RM w l s x) (v : Bool) : RM (w.setCell ⟨l.p, 8, none⟩ (.bool v)) l { s with on := v } x :=
  h.setTop 8 _ (fun i hi => by rcases ref_split hi with rfl | rfl | rfl | rfl | rfl | rfl | rfl | rfl | rfl | rfl | rfl | rfl <;> simp [refCell]) rfl rfl rfl rfl rfl rfl
theorem RM.setReads {w : World} {l : Pl} {s : Fl} {x : Int} (h : RM w l s x) (v : Nat) : RM (w.setCell ⟨l.p, 9, none⟩ (.int .i64 v)) l { s with reads := v } x :=
  h.setTop 9 _ (fun i hi => by rcases ref_split hi with rfl | rfl | rfl | rfl | rfl | rfl | rfl | rfl | rfl | rfl | rfl | rfl <;> simp [refCell]) rfl rfl rfl rfl rfl rfl
theorem RM.setProgs {w : World} {l : Pl} {s : Fl} {x : Int} (h : RM w l s x) (v : Nat) : RM (w.setCell ⟨l.p, 10, none⟩ (.int .i64 v)) l { s with progs := v } x :=
  h.setTop 10 _ (fun i hi => by rcases ref_split hi with rfl | rfl | rfl | rfl | rfl | rfl | rfl | rfl | rfl | rfl | rfl | rfl <;> simp [refCell]) rfl rfl rfl rfl rfl rfl
theorem RM.setErases {w : World} {l : Pl} {s : Fl} {x : Int} (h : RM w l s x) (v : Nat) : RM (w.setCell ⟨l.p, 11, none⟩ (.int .i64 v)) l { s with erases := v } x :=
  h.setTop 11 _ (fun i hi => by rcases ref_split hi with rfl | rfl | rfl | rfl | rfl | rfl | rfl | rfl | rfl | rfl | rfl | rfl <;> simp [refCell]) rfl rfl rfl rfl rfl rfl
/-- What the program alone counts, and its own cut, are no part of it. -/
theorem RM.alike {w : World} {l : Pl} {s : Fl} {x : Int} (h : RM w l s x) (wr : Nat → Nat) (cu : Int) : RM w l { s with wear := wr, cut := cu } x := by
  refine ⟨h.top.congr (fun i hi => ?_), h.cel, h.bad, h.torn, h.next, h.ap⟩
  rcases ref_split hi with rfl | rfl | rfl | rfl | rfl | rfl | rfl | rfl | rfl | rfl | rfl | rfl <;> rfl
theorem RM.setBad {w : World} {l : Pl} {s : Fl} {x : Int} (h : RM w l s x) (b : Nat) (v : Bool) : RM (w.setCell ⟨l.b, b, none⟩ (.bool v)) l { s with bad := fun i => if i = b then v else s.bad i } x :=
  ⟨h.top.other (a := ⟨l.b, _, none⟩) h.ap.pb _, h.cel.other (a := ⟨l.b, _, none⟩) h.ap.yb _, (h.bad.set _ _).congr (fun i _ => by split <;> simp_all), h.torn.other (a := ⟨l.b, _, none⟩) (Ne.symm h.ap.bt) _, h.next.other (a := ⟨l.b, _, none⟩) (Ne.symm h.ap.bn) _, h.ap⟩
theorem RM.setTorn {w : World} {l : Pl} {s : Fl} {x : Int} (h : RM w l s x) (b : Nat) (v : Bool) : RM (w.setCell ⟨l.t, b, none⟩ (.bool v)) l { s with torn := fun i => if i = b then v else s.torn i } x :=
  ⟨h.top.other (a := ⟨l.t, _, none⟩) h.ap.pt _, h.cel.other (a := ⟨l.t, _, none⟩) h.ap.yt _, h.bad.other (a := ⟨l.t, _, none⟩) h.ap.bt _, (h.torn.set _ _).congr (fun i _ => by split <;> simp_all), h.next.other (a := ⟨l.t, _, none⟩) (Ne.symm h.ap.tn) _, h.ap⟩
theorem RM.setNext {w : World} {l : Pl} {s : Fl} {x : Int} (h : RM w l s x) (b v : Nat) : RM (w.setCell ⟨l.n, b, none⟩ (.int .i64 v)) l { s with next := fun i => if i = b then v else s.next i } x :=
  ⟨h.top.other (a := ⟨l.n, _, none⟩) h.ap.pn _, h.cel.other (a := ⟨l.n, _, none⟩) h.ap.yn _, h.bad.other (a := ⟨l.n, _, none⟩) h.ap.bn _, h.torn.other (a := ⟨l.n, _, none⟩) h.ap.tn _, (h.next.set _ _).congr (fun i _ => by split <;> simp_all), h.ap⟩
theorem RM.setCel {w : World} {l : Pl} {s : Fl} {x : Int} (h : RM w l s x) (j : Nat) (v : Int) : RM (w.setCell ⟨l.y, j, none⟩ (.int .u8 v)) l { s with cell := fun i => if i = j then v else s.cell i } x :=
  ⟨h.top.other (a := ⟨l.y, _, none⟩) h.ap.py _, (h.cel.set _ _).congr (fun i _ => by split <;> simp_all), h.bad.other (a := ⟨l.y, _, none⟩) (Ne.symm h.ap.yb) _, h.torn.other (a := ⟨l.y, _, none⟩) (Ne.symm h.ap.yt) _, h.next.other (a := ⟨l.y, _, none⟩) (Ne.symm h.ap.yn) _, h.ap⟩

theorem RM.tops {w : World} {l : Pl} {s : Fl} {x : Int} (h : RM w l s x) :
    w.cell? ⟨l.p, 0, none⟩ = some (.int .i64 s.B) ∧ w.cell? ⟨l.p, 1, none⟩ = some (.int .i64 s.P) ∧ w.cell? ⟨l.p, 2, none⟩ = some (.slice (some ⟨l.y, 0, none⟩) (s.B * s.P * 68) (s.B * s.P * 68)) ∧
    w.cell? ⟨l.p, 3, none⟩ = some (.slice (some ⟨l.b, 0, none⟩) s.B s.B) ∧ w.cell? ⟨l.p, 4, none⟩ = some (.slice (some ⟨l.t, 0, none⟩) s.B s.B) ∧ w.cell? ⟨l.p, 5, none⟩ = some (.slice (some ⟨l.n, 0, none⟩) s.B s.B) ∧
    w.cell? ⟨l.p, 6, none⟩ = some (.int .i64 x) ∧ w.cell? ⟨l.p, 7, none⟩ = some (.int .i64 s.fail) ∧ w.cell? ⟨l.p, 8, none⟩ = some (.bool s.on) :=
  ⟨(h.top 0 (by omega)).1, (h.top 1 (by omega)).1, (h.top 2 (by omega)).1, (h.top 3 (by omega)).1, (h.top 4 (by omega)).1, (h.top 5 (by omega)).1, (h.top 6 (by omega)).1, (h.top 7 (by omega)).1, (h.top 8 (by omega)).1⟩
theorem RM.stats {w : World} {l : Pl} {s : Fl} {x : Int} (h : RM w l s x) :
    w.cell? ⟨l.p, 9, none⟩ = some (.int .i64 s.reads) ∧ w.cell? ⟨l.p, 10, none⟩ = some (.int .i64 s.progs) ∧ w.cell? ⟨l.p, 11, none⟩ = some (.int .i64 s.erases) :=
  ⟨(h.top 9 (by omega)).1, (h.top 10 (by omega)).1, (h.top 11 (by omega)).1⟩
theorem RM.free {w : World} {l : Pl} {s : Fl} {x : Int} (h : RM w l s x) : ∀ i, i < 12 → w.frozen? ⟨l.p, i, none⟩ = false := fun i hi => (h.top i hi).2

theorem rkp {l : Pl} {a w : World} (h : Keep l.own a w) (j : Nat) (v : Value) : Keep l.own a (w.setCell ⟨l.p, j, none⟩ v) := h.setCell (Or.inl (Or.inl rfl)) v
theorem rky {l : Pl} {a w : World} (h : Keep l.own a w) (j : Nat) (v : Value) : Keep l.own a (w.setCell ⟨l.y, j, none⟩ v) := h.setCell (Or.inl (Or.inr (Or.inl rfl))) v
theorem rkb {l : Pl} {a w : World} (h : Keep l.own a w) (j : Nat) (v : Value) : Keep l.own a (w.setCell ⟨l.b, j, none⟩ v) := h.setCell (Or.inl (Or.inr (Or.inr (Or.inl rfl)))) v
theorem rkt {l : Pl} {a w : World} (h : Keep l.own a w) (j : Nat) (v : Value) : Keep l.own a (w.setCell ⟨l.t, j, none⟩ v) := h.setCell (Or.inl (Or.inr (Or.inr (Or.inr (Or.inl rfl))))) v
theorem rkn {l : Pl} {a w : World} (h : Keep l.own a w) (j : Nat) (v : Value) : Keep l.own a (w.setCell ⟨l.n, j, none⟩ v) := h.setCell (Or.inl (Or.inr (Or.inr (Or.inr (Or.inr rfl))))) v

/-- The cut of the document's own flash is the program's while the power is on. -/
def Cuts (s : Fl) (x : Int) : Prop := (s.on = true → x = s.cut) ∧ -1 ≤ x ∧ x ≤ 9223372036854775807

theorem rstep_any {w : World} {l : Pl} {s : Fl} {x : Int} (h : RM w l s x) (hon : s.on = true) (hx : Cuts s x) :
    Calls Try.prog 43 #[.pointer (some ⟨l.p, 0, none⟩)] w fun e w' => ∃ y, e = .returned (.bool s.stepOk) ∧ RM w' l s.step y ∧ Cuts s.step y ∧ Keep l.own w w' := by
  obtain ⟨t0, t1, t2, t3, t4, t5, t6, t7, t8⟩ := h.tops
  have f6 := h.free 6 (by omega)
  have f8 := h.free 8 (by omega)
  obtain ⟨hx1, hx2, hx3⟩ := hx
  have hxc := hx1 hon
  clear hx1
  subst hxc
  by_cases e0 : s.cut = 0
  · have hst : s.stepOk = false := by simp [Fl.stepOk, e0]
    have hs2 : s.step = { s with cut := -1, on := false } := by simp [Fl.step, e0]
    rw [hst, hs2]
    clear hst hs2
    go_enter Try.func43, Try.ntmps43
    go_wp2
    go_ret
    exact ⟨s.cut, rfl, (h.setOn false).alike s.wear (-1), ⟨fun e => by simp at e, by omega, by omega⟩, rkp (Keep.refl _ _) _ _⟩
  · by_cases e1 : s.cut = -1
    · have hst : s.stepOk = true := by simp [Fl.stepOk, e0]
      have hs2 : s.step = s := by simp [Fl.step, e1]
      rw [hst, hs2]
      clear hst hs2
      go_enter Try.func43, Try.ntmps43
      go_wp2
      go_ret
      exact ⟨s.cut, rfl, h, ⟨fun _ => rfl, by omega, by omega⟩, Keep.refl _ _⟩
    · have hst : s.stepOk = true := by simp [Fl.stepOk, e0]
      have hs2 : s.step = { s with cut := s.cut - 1 } := by simp [Fl.step, e0, e1]
      have hp : 0 < s.cut := by omega
      rw [hst, hs2]
      clear hst hs2
      go_enter Try.func43, Try.ntmps43
      go_wp2
      go_ret
      exact ⟨s.cut - 1, rfl, (h.setCut _).alike s.wear (s.cut - 1), ⟨fun _ => rfl, by omega, by omega⟩, rkp (Keep.refl _ _) _ _⟩

theorem rfails_any {w : World} {l : Pl} {s : Fl} {x : Int} (h : RM w l s x) (hc : -1 ≤ s.fail ∧ s.fail ≤ 9223372036854775807) :
    Calls Try.prog 42 #[.pointer (some ⟨l.p, 0, none⟩)] w fun e w' => e = .returned (.bool s.failB) ∧ RM w' l s.failed x ∧ Keep l.own w w' := by
  obtain ⟨t0, t1, t2, t3, t4, t5, t6, t7, t8⟩ := h.tops
  have f7 := h.free 7 (by omega)
  by_cases e0 : s.fail = 0
  · have hst : s.failB = true := by simp [Fl.failB, e0]
    have hs2 : s.failed = { s with fail := -1 } := by simp [Fl.failed, e0]
    rw [hst, hs2]
    clear hst hs2
    go_enter Try.func42, Try.ntmps42
    go_wp2
    go_ret
    exact ⟨rfl, h.setFail (-1), rkp (Keep.refl _ _) _ _⟩
  · by_cases e1 : s.fail = -1
    · have hst : s.failB = false := by simp [Fl.failB, e0]
      have hs2 : s.failed = s := by simp [Fl.failed, e1]
      rw [hst, hs2]
      clear hst hs2
      go_enter Try.func42, Try.ntmps42
      go_wp2
      go_ret
      exact ⟨rfl, h, Keep.refl _ _⟩
    · have hst : s.failB = false := by simp [Fl.failB, e0]
      have hs2 : s.failed = { s with fail := s.fail - 1 } := by simp [Fl.failed, e1]
      have hp : 0 < s.fail := by omega
      rw [hst, hs2]
      clear hst hs2
      go_enter Try.func42, Try.ntmps42
      go_wp2
      go_ret
      exact ⟨rfl, h.setFail _, rkp (Keep.refl _ _) _ _⟩
end Nd
end Go.Proofs.Ytjafjofonckaaaa
