/-
  What Range answers: the range cut into the fewest pieces, in new memory.
-/
import Derived.Test.YtbdankhlbepjoaaPieceW
namespace Go.Proofs.Ytbdankhlbepjoaa
open Go.ChangeShapes Go.WideShapes Go.ChangeAt Go.RowKit
namespace Tg

set_option maxRecDepth 100000 in
/-- One piece more, and where the row then lies. -/
theorem Rq.appS {w0 w : World} {a : Option Addr} {cap : Nat} {m : List Rn} (h : Rq w0 w a cap m) (hl : m.length ≤ 100000) (x : Rn) :
    ∃ a' cap' w', (Builtin.append_ #[42, 42] 42 #[.slice a m.length cap, .slice (some ⟨w.heap.size, 0, none⟩) 1 1]).run Try.prog (w.alloc (.cells #[.int .i64 x.lba, .int .i64 x.len, .int .i64 x.phys] 56)) = .ok (.slice a' (m.length + 1) cap') w' ∧ Rq w0 w' a' cap' (m ++ [x]) ∧
      Keep (fun b => a = some ⟨b, 0, none⟩) w w' ∧ (a' = a ∨ ∃ g, a' = some ⟨g, 0, none⟩ ∧ w.heap.size ≤ g) := by
  have hA := (Keep.refl (fun _ => False) w).alloc (.cells #[.int .i64 x.lba, .int .i64 x.len, .int .i64 x.phys] 56)
  have h1 := h.more hA
  have hsz : w.heap.size ≤ (w.alloc (.cells #[.int .i64 x.lba, .int .i64 x.len, .int .i64 x.phys] 56)).heap.size := hA.size
  have hnews : ∀ j u, (rcells [x])[j]? = some u → (w.alloc (.cells #[.int .i64 x.lba, .int .i64 x.len, .int .i64 x.phys] 56)).cell? ((⟨w.heap.size, 0, none⟩ : Addr).add j) = some u := fun j u hu => cells_new w _ 56 j u (by simpa [rcells, rcs] using hu)
  have hone : ∀ u ∈ rcells [x], u.oneCell' = true := by intro u hu; simp [rcells, rcs] at hu; rcases hu with rfl | rfl | rfl <;> rfl
  obtain ⟨i, hi, hz0, hz1, hz2⟩ := info_parts info45
  generalize w.alloc (.cells #[.int .i64 x.lba, .int .i64 x.len, .int .i64 x.phys] 56) = w1 at *
  obtain ⟨v', w', hrun, hown, hgrow, hnil⟩ := run_append_own (P := Try.prog) w1 w0.heap.size 42 42 56 i _ 3 24 Try.underlying42 hi hz0 hz1 hz2 rfl (by decide) (.slice a m.length cap) m.length (rcells m) h1.own
    ⟨w.heap.size, 0, none⟩ 1 1 (rcells [x]) (rcells_len [x]) hnews hone (by unfold maxLen; omega) (by omega) h1.keep.size
  have hk : Keep (fun b => a = some ⟨b, 0, none⟩) w1 w' := (keep_grown hgrow).mono (fun b _ e => by
    rcases h1.own.2 with ⟨e', -⟩ | ⟨g, c, cur, e', -⟩
    · injection e' with e'; subst e'; cases e
    · injection e' with e'; subst e'; injection e with e; subst e; rfl)
  have hK : Keep (fun b => a = some ⟨b, 0, none⟩) w w' := (hA.mono (fun _ _ e => e.elim)).next hk (fun y hy e => e)
  have hK0 : Keep (fun _ => False) w0 w' := h1.keep.next hk (fun y hy e => by have := (h1.block e).1; omega)
  rw [← rcells_app] at hown
  have hshape : ∃ a' cap', v' = .slice a' (m.length + 1) cap' := by
    rcases hown.2 with ⟨e, hn⟩ | ⟨g, c', cur, e, -⟩
    · omega
    · exact ⟨_, _, e⟩
  obtain ⟨a', cap', rfl⟩ := hshape
  refine ⟨a', cap', w', hrun, ⟨by rw [List.length_append]; exact hown, hK0⟩, hK, ?_⟩
  rcases h1.own.2 with ⟨e', hn⟩ | ⟨g, c, cur, e', hb, hh, hnc, hm, hs, ht⟩
  · injection e' with e1 e2 e3
    subst e1 e3
    have hn' := run_append_nil (P := Try.prog) w1 42 42 56 i _ Try.underlying42 hi hz0 ⟨w.heap.size, 0, none⟩ 1 1 (rcells [x]) (by rw [hz1]; rfl) hnews (by omega) (by omega) (by rw [hz2]; omega)
    rw [hn] at hrun
    rw [hn'] at hrun
    injection hrun with hr1 hr2
    injection hr1 with hr1 hr3 hr4
    exact Or.inr ⟨_, hr1.symm, hsz⟩
  · injection e' with e1 e2 e3
    subst e1 e3
    by_cases hroom : m.length + 1 ≤ cap
    · obtain ⟨w'', hf, -, -⟩ := run_append_fits (P := Try.prog) w1 w0.heap.size 42 42 56 i 3 Try.underlying42 hi hz1 g m.length cap (rcells m) h1.own ⟨w.heap.size, 0, none⟩ 1 1 (rcells [x]) (rcells_len [x]) hnews hone hroom
      rw [hf] at hrun
      injection hrun with hr1 hr2
      injection hr1 with hr1 hr3 hr4
      exact Or.inl hr1.symm
    · have hg := run_append_grow (P := Try.prog) w1 42 42 56 i _ Try.underlying42 hi hz0 ⟨g, 0, none⟩ m.length cap (rcells m) (by rw [hz1]; exact rcells_len m) (h1.own.cells (g := g) rfl) ⟨w.heap.size, 0, none⟩ 1 1 (rcells [x]) (by rw [hz1]; rfl) hnews (by omega) (by omega) (growslice_fits (by omega) (by rw [hz2]; omega))
      rw [hg] at hrun
      injection hrun with hr1 hr2
      injection hr1 with hr1 hr3 hr4
      exact Or.inr ⟨_, hr1.symm, hsz⟩

set_option maxRecDepth 100000 in
theorem range_no {w wr : World} {q b p k N cap : Nat} {m : List Rn} (h : Mp w wr q b p k N cap m) {lba n : Int} (hl : lba ≤ 9223372036854775807) (hok : okR (cap : Int) lba n = false) :
    Calls Try.prog 18 #[.pointer (some ⟨q, 0, none⟩), .int .i64 lba, .int .i64 n] wr fun e w' => e = .returned (.tuple #[.slice none 0 0, .int .i64 1]) ∧ Keep (fun _ => False) wr w' := by
  have hr := right_any h lba n hl
  have K0 := Keep.refl (fun _ => False) wr
  rw [hok] at hr
  clear h
  go_enter Try.func18, Try.ntmps18
  go_wp2_with (go_at_call 40; refine hr.mono ?_; rintro e w1 ⟨rfl, rfl⟩)
  go_ret2
  exact ⟨rfl, K0⟩

set_option maxRecDepth 100000 in
set_option maxHeartbeats 2000000 in
theorem range_any {w wa : World} {q b p k N cap : Nat} {m : List Rn} (h : Mp w wa q b p k N cap m) {lba n : Int} (h0 : 0 ≤ lba) (h1 : 1 ≤ n) (h2 : lba + n ≤ (cap : Int)) :
    Calls Try.prog 18 #[.pointer (some ⟨q, 0, none⟩), .int .i64 lba, .int .i64 n] wa fun e w' => ∃ a c ps, e = .returned (.tuple #[.slice a ps.length c, .int .i64 0]) ∧ Cut (page m) (lba + n) lba ps ∧ Rq wa w' a c ps ∧ (ps.length : Int) ≤ n := by
  have hcap := h.cap2
  have hr := right_any h lba n (by omega)
  rw [okR_iff.2 ⟨h1, h0, by omega⟩] at hr
  have d1 := wrapI (x := lba + n) (by omega) (by omega)
  have R0 : Rq wa wa none 0 [] := Rq.nil wa
  have hN : lba + n ≤ 512 := by omega
  go_enter Try.func18, Try.ntmps18
  go_wp2_with (go_at_call 40; refine hr.mono ?_; rintro e w1 ⟨rfl, e0⟩; have e0 := e0.symm; subst e0)
  clear hr
  go_loopw [1, 8] (fun v l wr => ∃ (s : Int) (ps : List Rn) (a : Option Addr) (c : Nat), v = .int .i64 s ∧ l = .slice a ps.length c ∧ lba ≤ s ∧ s ≤ lba + n ∧ Rq wa wr a c ps ∧ Hid ((∀ b, Cut (page m) (lba + n) s b → Cut (page m) (lba + n) lba (ps ++ b)) ∧ (ps.length : Int) ≤ s - lba)) (fun v _ _ => (lba + n - intOf v).toNat)
  case atStart => exact ⟨lba, [], none, 0, rfl, rfl, by omega, by omega, R0, fun b hb => hb, by simp⟩
  case round =>
    obtain ⟨s, ps, a, c, rfl, rfl, s1, s2, R1, hI⟩ := hrel
    clear R0
    by_cases hs : s < lba + n
    · have hp := piece_any (h.more R1.keep) (lo := s) (hi := lba + n) (by omega) hs h2
      go_upto_region 7 with (go_at_call 42; refine hp.mono ?_; rintro e w2 ⟨y, rfl, hy, k2⟩; rw [rnA_lit])
      have K3 : Keep (fun _ => False) wr (w2.alloc (.cells (rnA y) 56)) := k2.alloc _
      have L3 := Lrn.new45 w2 y
      rw [rnA_lit] at K3 L3
      have hg : wr.heap.size ≤ w2.heap.size := k2.size
      generalize w2.alloc (.cells #[.int .i64 y.lba, .int .i64 y.len, .int .i64 y.phys] 56) = w3 at K3 L3 ⊢
      generalize w2.heap.size = g3 at L3 hg ⊢
      have hlen : ps.length ≤ 512 := by have := hI.2; omega
      have hne : ∀ g', a = some ⟨g', 0, none⟩ → ¬ g' = g3 := fun g' e => by have := (R1.block e).2; omega
      obtain ⟨a', c', w', happ, R5, k5, -⟩ := (R1.more K3).appS (by omega) y
      have L5 : Lrn w' g3 y := Blk.keep L3 k5 (fun e => hne g3 e rfl)
      obtain ⟨p0, p1, p2⟩ := L3.c
      have q1 := L5.c.2.1
      obtain ⟨y1, y2, y3, y4, y5⟩ := hy
      have d2 := wrapI (x := s + y.len) (by omega) (by omega)
      have hI2 : Hid ((∀ b, Cut (page m) (lba + n) (s + y.len) b → Cut (page m) (lba + n) lba (ps ++ [y] ++ b)) ∧ ((ps ++ [y]).length : Int) ≤ s + y.len - lba) := by
        refine ⟨fun b hb => ?_, by have := hI.2; simp; omega⟩
        rw [List.append_assoc]
        exact hI.1 _ (y5 b (by unfold Rn.fin; rw [y1]; exact hb))
      have hsl : (ps ++ [y]).length = ps.length + 1 := by simp
      clear hp L3 L5 hI K3 hne R1 k5 k2
      clear y5
      have y1' : Hid (y.lba = s) := y1
      rw [y1] at y3
      clear y1
      go_wp2_with (at_builtin; refine wpList_append_run rfl (.tmp 26) (.tmp 28) 42 rfl (by rfl) (by rfl) happ ?_)
      go_roundw
      case rel => exact ⟨s + y.len, ps ++ [y], a', c', rfl, by rw [show (ps ++ [y]).length = ps.length + 1 from hsl], by omega, by omega, R5, hI2⟩
      case measure => simp [intOf]; omega
    · have es : s = lba + n := by omega
      subst es
      clear h
      go_wp2_with fail
      go_ret2
      refine ⟨a, c, ps, rfl, ?_, R1, by have := hI.2; omega⟩
      have := hI.1 [] rfl
      rwa [List.append_nil] at this
end Tg
end Go.Proofs.Ytbdankhlbepjoaa
