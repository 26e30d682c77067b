/-
  What join leaves of a row of runs of one's own.
-/
import Derived.Test.YtbdankhlbepjoaaMap
import Derived.BigQuiet
namespace Go.Proofs.Ytbdankhlbepjoaa
open Go.ChangeShapes Go.WideShapes Go.ChangeAt Go.RowKit
namespace Tg

theorem set_cells {a : List Rn} {x : Rn} {v : Int} : (rcells (a ++ [x])).set (a.length * 3 + 1) (.int .i64 v) = rcells (a ++ [⟨x.lba, v, x.phys⟩]) := by
  rw [rcells_app, rcells_app, List.set_append_right _ _ (by rw [rcells_len]; omega), rcells_len, show a.length * 3 + 1 - a.length * 3 = 1 by omega]
  rfl
/-- The last run's length is written over. -/
theorem Rr.setLen {w0 w : World} {g cap : Nat} {a : List Rn} {x : Rn} (h : Rr w0 w (some ⟨g, 0, none⟩) cap (a ++ [x])) (v : Int) :
    Rr w0 (w.setCell ⟨g, a.length * 3 + 1, none⟩ (.int .i64 v)) (some ⟨g, 0, none⟩) cap (a ++ [⟨x.lba, v, x.phys⟩]) := by
  have hl : (a ++ [x]).length = (a ++ [(⟨x.lba, v, x.phys⟩ : Rn)]).length := by simp
  obtain ⟨h1, h2⟩ := h.own.stored (a.length * 3 + 1) (.int .i64 v)
  rw [set_cells] at h1
  refine ⟨by rw [← hl]; exact h1, h.keep.next (keep_grown h2) (fun y hy e => ?_)⟩
  injection e with e
  have := (h.block rfl).1
  omega

theorem Lrn.c {w : World} {g : Nat} {x : Rn} (h : Lrn w g x) : w.cell? ⟨g, 0, none⟩ = some (.int .i64 x.lba) ∧ w.cell? ⟨g, 1, none⟩ = some (.int .i64 x.len) ∧ w.cell? ⟨g, 2, none⟩ = some (.int .i64 x.phys) :=
  ⟨(h 0 (by omega)).1, (h 1 (by omega)).1, (h 2 (by omega)).1⟩
set_option maxRecDepth 100000 in
set_option maxHeartbeats 1000000 in
theorem rjoin_any {w0 w : World} {a : Option Addr} {cap : Nat} {m : List Rn} (h : Rr w0 w a cap m) (r : Rn) (hl : m.length ≤ 100000)
    (hm : ∀ x ∈ m, 0 ≤ x.lba ∧ x.lba ≤ 100000000 ∧ 0 ≤ x.phys ∧ x.phys ≤ 100000000 ∧ 0 ≤ x.len ∧ x.len ≤ 100000000) (hr : r.len ≤ 100000000) :
    Calls Try.prog 49 #[.slice a m.length cap, .agg (rnA r)] w fun e w' => ∃ a' cap', e = .returned (.slice a' (joinL m r).length cap') ∧ Rr w0 w' a' cap' (joinL m r) := by
  have K1 : Keep (fun _ => False) w (w.alloc (.cells (rnA r) 55)) := (Keep.refl _ _).alloc _
  have L1 := Lrn.new w r
  have R1 := h.more K1
  have hw : w.heap.size < (w.alloc (.cells (rnA r) 55)).heap.size := by simp
  generalize hW : w.alloc (.cells (rnA r) 55) = w1 at K1 L1 R1 hw
  rw [rnA_lit] at hW ⊢
  have q0 : w1.cell? ⟨w.heap.size, 0, none⟩ = some (.int .i64 r.lba) := (L1 0 (by omega)).1
  have q1 : w1.cell? ⟨w.heap.size, 1, none⟩ = some (.int .i64 r.len) := (L1 1 (by omega)).1
  have q2 : w1.cell? ⟨w.heap.size, 2, none⟩ = some (.int .i64 r.phys) := (L1 2 (by omega)).1
  have hcap := R1.rs.1
  by_cases c1 : r.len < 1
  · rw [joinL_empty c1]
    have F : ∃ a' cap', Ending.returned (.slice a m.length cap) = .returned (.slice a' m.length cap') ∧ Rr w0 w1 a' cap' m := ⟨_, _, rfl, R1⟩
    clear h R1 L1
    go_enter Try.func49, Try.ntmps49
    go_wp2_with fail
    go_ret
    exact F
  · have c1' : 1 ≤ r.len := by omega
    rcases snoc_cases m with rfl | ⟨A, x, rfl⟩
    · rw [joinL_nil c1']
      simp only [List.length_nil] at hl hcap ⊢
      clear h
      go_enter Try.func49, Try.ntmps49
      go_wp2_with fail
      go_quiet (fail)
      have K2 := (Keep.refl (fun _ => False) w1).drewN nq
      generalize w1.drewN nq = w2 at K2 ⊢
      obtain ⟨a', cap', w', happ, R'⟩ := (R1.more K2).app1 (by simp) r
      obtain ⟨p0, p1, p2⟩ := (L1.more K2).c
      simp only [List.length_nil, Nat.zero_add] at happ
      clear R1 L1
      go_wp2_with (at_builtin; refine wpList_append_run rfl (.tmp 58) (.tmp 60) 49 rfl (by rfl) (by rfl) happ ?_)
      go_ret
      exact ⟨_, _, rfl, R'⟩
    · obtain ⟨g, rfl, e0, e1, e2⟩ := R1.rs.at (i := A.length) (x := x) (by simp)
      obtain ⟨x1, x2, x3, x4, x5, x6⟩ := hm x (by simp)
      have hAl : (A ++ [x]).length = A.length + 1 := by simp
      have d1 := wrapI (x := x.lba + x.len) (by omega) (by omega)
      have d2 := wrapI (x := x.phys + x.len) (by omega) (by omega)
      have d3 := wrapI (x := x.len + r.len) (by omega) (by omega)
      have hr2 := R1.rs.2.1
      rw [hAl] at hl hcap ⊢
      have di := wrapI (x := ((A.length + 1 : Nat) : Int) - 1) (by omega) (by omega)
      have di2 : ((A.length + 1 : Nat) : Int) - 1 = (A.length : Int) := by omega
      rw [di2] at di
      clear h hm
      by_cases g1 : x.fin = r.lba ∧ x.phys + x.len = r.phys
      · have J := joinL_glue (l := A) c1' g1
        rw [J, show (A ++ [(⟨x.lba, x.len + r.len, x.phys⟩ : Rn)]).length = A.length + 1 by simp]
        have b1 : (x.lba + x.len == r.lba) = true := by simpa [Rn.fin] using g1.1
        have b2 : (x.phys + x.len == r.phys) = true := by simpa using g1.2
        clear g1 J
        go_enter Try.func49, Try.ntmps49
        go_wp2_with fail
        go_quiet (fail)
        have K2 := (Keep.refl (fun _ => False) w1).drewN nq
        generalize w1.drewN nq = w2 at K2 ⊢
        have R2 := R1.more K2
        obtain ⟨p0, p1, p2⟩ := (L1.more K2).c
        obtain ⟨g', eg, f0, f1, f2⟩ := R2.rs.at (i := A.length) (x := x) (by simp)
        injection eg with eg; injection eg with eg; subst eg
        have hfz := R2.own.frozenAt (A.length * 3 + 1)
        clear R1 L1 e0 e1 e2 q0 q1 q2
        go_upto_region 5 with fail
        go_region
        have R3 := (R2.setLen (x.len + r.len)).more ((Keep.refl _ _).drew)
        clear R2 hfz f0 f1 f2 p0 p1 p2
        go_wp2_with fail
        go_ret
        exact ⟨_, _, rfl, R3⟩
      · have J := joinL_new (l := A) c1' g1
        rw [J]
        have hend : ∀ (w2 : World), Keep (fun _ => False) w1 w2 → ∃ a' cap' w', (Builtin.append_ #[49, 49] 49 #[.slice (some ⟨g, 0, none⟩) (A.length + 1) cap, .slice (some ⟨w2.heap.size, 0, none⟩) 1 1]).run Try.prog (w2.alloc (.cells #[.int .i64 r.lba, .int .i64 r.len, .int .i64 r.phys] 55)) = .ok (.slice a' (A.length + 1 + 1) cap') w' ∧ Rr w0 w' a' cap' (A ++ [x] ++ [r]) := fun w2 K2 => by
          have := (R1.more K2).app1 (by rw [hAl]; exact hl) r
          rwa [hAl] at this
        rw [show (A ++ [x] ++ [r]).length = A.length + 1 + 1 by simp]
        clear J
        by_cases g2 : x.lba + x.len = r.lba
        · have b1 : (x.lba + x.len == r.lba) = true := by simpa using g2
          have b2 : (x.phys + x.len == r.phys) = false := by
            simp
            intro e
            exact g1 ⟨g2, e⟩
          clear g1 g2
          go_enter Try.func49, Try.ntmps49
          go_wp2_with fail
          go_quiet (fail)
          have K2 := (Keep.refl (fun _ => False) w1).drewN nq
          generalize w1.drewN nq = w2 at K2 ⊢
          obtain ⟨p0, p1, p2⟩ := (L1.more K2).c
          obtain ⟨a', cap', w', happ, R'⟩ := hend w2 K2
          clear R1 L1 hend
          go_wp2_with (at_builtin; refine wpList_append_run rfl (.tmp 58) (.tmp 60) 49 rfl (by rfl) (by rfl) happ ?_)
          go_ret
          exact ⟨_, _, rfl, R'⟩
        · have b1 : (x.lba + x.len == r.lba) = false := by simpa using g2
          clear g1 g2
          go_enter Try.func49, Try.ntmps49
          go_wp2_with fail
          go_quiet (fail)
          have K2 := (Keep.refl (fun _ => False) w1).drewN nq
          generalize w1.drewN nq = w2 at K2 ⊢
          obtain ⟨p0, p1, p2⟩ := (L1.more K2).c
          obtain ⟨a', cap', w', happ, R'⟩ := hend w2 K2
          clear R1 L1 hend
          go_wp2_with (at_builtin; refine wpList_append_run rfl (.tmp 58) (.tmp 60) 49 rfl (by rfl) (by rfl) happ ?_)
          go_ret
          exact ⟨_, _, rfl, R'⟩
end Tg
end Go.Proofs.Ytbdankhlbepjoaa
