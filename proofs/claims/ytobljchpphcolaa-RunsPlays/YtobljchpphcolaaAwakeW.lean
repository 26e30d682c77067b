/-
  The awakening call of the statements: it returns true, and whatever was in memory is as it was.
-/
import Derived.Test.YtobljchpphcolaaSetW
import Derived.BigQuiet
namespace Go.Proofs.Ytobljchpphcolaa
open Go.ChangeShapes Go.WideShapes Go.ChangeAt Go.RowKit
namespace Tg

theorem Did.yes {w wa : World} {q b p k N cap : Nat} {m' : List Rn} {e : Ending} {w' : World} (h : Did w wa q b p k N cap m' e w') (hl : m'.length ≤ N) : e = .returned (.int .i64 0) ∧ Mp w w' q b p k N cap m' ∧ Keep (Own3 b p k) wa w' := by
  rcases h with ⟨h1, h2, h3, h4⟩ | ⟨h1, _⟩
  · exact ⟨h2, h3, h4⟩
  · omega
theorem Did.full {w wa : World} {q b p k N cap : Nat} {m' : List Rn} {e : Ending} {w' : World} (h : Did w wa q b p k N cap m' e w') (hl : N < m'.length) : e = .returned (.int .i64 5) ∧ Keep (fun _ => False) wa w' := by
  rcases h with ⟨h1, _⟩ | ⟨h1, h2, h3⟩
  · omega
  · exact ⟨h2, h3⟩
theorem call_yes {w wa : World} {q b p k N cap : Nat} {m m' : List Rn} {f : FuncId} {vs : Array Value} (h : Calls Try.prog f vs wa (Did w wa q b p k N cap m')) (e : m' = m) (hl : m.length ≤ N) :
    Calls Try.prog f vs wa fun e w' => e = .returned (.int .i64 0) ∧ Mp w w' q b p k N cap m ∧ Keep (Own3 b p k) wa w' := by
  subst e
  exact h.mono (fun _ _ hD => hD.yes hl)
theorem call_full {w wa : World} {q b p k N cap : Nat} {m' : List Rn} {f : FuncId} {vs : Array Value} (h : Calls Try.prog f vs wa (Did w wa q b p k N cap m')) (hl : N < m'.length) :
    Calls Try.prog f vs wa fun e w' => e = .returned (.int .i64 5) ∧ Keep (fun _ => False) wa w' := h.mono (fun _ _ hD => hD.full hl)
theorem Rw.rs {w : World} {G : Nat} {m : List Rn} (h : Rw w G (m.length * 3) (rcells m)) (hl : m.length ≤ 9223372036854775807) : Rs w (some ⟨G, 0, none⟩) m.length m := ⟨Nat.le_refl _, hl, Or.inr ⟨G, rfl, h.cells⟩⟩
theorem Mp.out {w wr : World} {q b p k N cap : Nat} {m : List Rn} (h : Mp w wr q b p k N cap m) {g : Nat} (hg : wr.heap.size ≤ g) : ¬ Own3 b p k g := by
  have := h.lt
  rintro (e | e | e) <;> omega

/-- The maps of the examples. -/
def x1 : List Rn := [⟨0, 4, 100⟩]
def x2 : List Rn := [⟨0, 6, 100⟩]
def x3 : List Rn := [⟨0, 2, 100⟩, ⟨2, 1, 50⟩, ⟨3, 3, 103⟩]
def x4 : List Rn := [⟨2, 1, 50⟩, ⟨3, 3, 103⟩]
theorem x1_is : setL ⟨0, 4, 100⟩ [] = x1 := by kernel_rfl
theorem x2_is : setL ⟨4, 2, 104⟩ x1 = x2 := by kernel_rfl
theorem x3_is : setL ⟨2, 1, 50⟩ x2 = x3 := by kernel_rfl
theorem x3_full : 3 < (setL ⟨8, 1, 7⟩ x3).length := by decide +kernel
theorem x4_is : clearL 0 (0 + 2) x3 = x4 := by kernel_rfl
theorem x3_cut : cutL (0 + 8) 0 x3 = [⟨0, 2, 100⟩, ⟨2, 1, 50⟩, ⟨3, 3, 103⟩, ⟨6, 2, -1⟩] := by kernel_rfl

set_option maxRecDepth 100000 in
set_option maxHeartbeats 2000000 in
theorem awake_any (w : World) : Calls Try.prog 8 #[] w fun e w' => e = .returned (.bool true) ∧ Keep (fun _ => False) w w' := by
  have hnew := newMap_any (w := w) (cap := 10) (N := 3) (by omega) (by omega) (by omega) (by omega)
  rw [show ((10 : Nat) : Int) = 10 from rfl, show ((3 : Nat) : Int) = 3 from rfl] at hnew
  go_enter Try.func8, Try.ntmps8
  go_upto_region 4 with (go_at_call 9; refine hnew.mono ?_; rintro e w1 ⟨q, b, p, k, rfl, M1⟩)
  clear hnew
  have c1 : Calls Try.prog 10 #[.pointer (some ⟨q, 0, none⟩), .int .i64 0, .int .i64 4, .int .i64 100] w1 _ := call_yes (set_map M1 (r := ⟨0, 4, 100⟩) (by simp) (by simp) (by simp) (by simp) (by simp)) x1_is (by simp [x1])
  go_upto_region 5 with (go_at_call 10; refine c1.mono ?_; rintro e w2 ⟨rfl, M2, k2⟩)
  clear c1 k2 M1
  have c2 : Calls Try.prog 10 #[.pointer (some ⟨q, 0, none⟩), .int .i64 4, .int .i64 2, .int .i64 104] w2 _ := call_yes (set_map M2 (r := ⟨4, 2, 104⟩) (by simp) (by simp) (by simp) (by simp) (by simp)) x2_is (by simp [x2])
  go_upto_region 6 with (go_at_call 10; refine c2.mono ?_; rintro e w3 ⟨rfl, M3, k3⟩)
  clear c2 k3 M2
  have c3 := runs_any M3
  have o3 : ¬ Own3 b p k w3.heap.size := M3.out (Nat.le_refl _)
  generalize w3.heap.size = G at c3 o3
  rw [show x2.length = 1 from rfl] at c3
  go_upto_region 7 with (go_at_call 16; refine c3.mono ?_; rintro e w4 ⟨rfl, r4, k4⟩)
  clear c3
  have r4 : Rs w4 (some ⟨G, 0, none⟩) 1 x2 := Rw.rs (m := x2) r4 (by simp [x2])
  have M4 := M3.more k4
  clear k4 M3
  have c4 : Calls Try.prog 10 #[.pointer (some ⟨q, 0, none⟩), .int .i64 2, .int .i64 1, .int .i64 50] w4 _ := call_yes (set_map M4 (r := ⟨2, 1, 50⟩) (by simp) (by simp) (by simp) (by simp) (by simp)) x3_is (by simp [x3])
  go_upto_region 8 with (go_at_call 10; refine c4.mono ?_; rintro e w5 ⟨rfl, M5, k5⟩)
  have r5 := r4.keep k5 (fun g e => by injection e with e; injection e with e; subst e; exact o3)
  clear c4 k5 M4 r4
  have c5 := range_any M5 (lba := 0) (n := 8) (by omega) (by omega) (by omega)
  go_upto_region 9 with (go_at_call 17; refine c5.mono ?_; rintro e w6 ⟨a, c, ps, rfl, hcut, r6, -⟩)
  have hps : ps = [⟨0, 2, 100⟩, ⟨2, 1, 50⟩, ⟨3, 3, 103⟩, ⟨6, 2, -1⟩] := (Cut.one hcut (cutL_cut M5.form _ x3 [] 0 rfl (by omega) (by simp))).trans x3_cut
  have M6 := M5.more r6.keep
  have s6 := r5.more r6.keep
  have rp6 := r6.rs
  have op6 : ∀ g, a = some ⟨g, 0, none⟩ → ¬ Own3 b p k g := fun g e => M5.out (r6.block e).1
  subst hps
  rw [show ([⟨0, 2, 100⟩, ⟨2, 1, 50⟩, ⟨3, 3, 103⟩, ⟨6, 2, -1⟩] : List Rn).length = 4 from rfl]
  clear c5 M5 r5 r6 hcut
  have c6 : Calls Try.prog 10 #[.pointer (some ⟨q, 0, none⟩), .int .i64 8, .int .i64 1, .int .i64 7] w6 _ := call_full (set_map M6 (r := ⟨8, 1, 7⟩) (by simp) (by simp) (by simp) (by simp) (by simp)) x3_full
  go_upto_region 10 with (go_at_call 10; refine c6.mono ?_; rintro e w7 ⟨rfl, k7⟩)
  have M7 := M6.more k7
  have s7 := s6.more k7
  have rp7 := rp6.more k7
  clear c6 M6 s6 rp6 k7
  have c7 := get_map M7 2 (by omega)
  rw [show page x3 2 = some 50 by kernel_rfl, show (some (50 : Int)).getD 0 = 50 from rfl, show (some (50 : Int)).isSome = true from rfl] at c7
  go_upto_region 11 with (go_at_call 24; refine c7.mono ?_; rintro e w8 ⟨rfl, k8⟩)
  have M8 := M7.more k8
  have s8 := s7.more k8
  have rp8 := rp7.more k8
  clear c7 M7 s7 rp7 k8
  have c8 := get_map M8 9 (by omega)
  rw [show page x3 9 = none by kernel_rfl, show (none : Option Int).getD 0 = 0 from rfl, show (none : Option Int).isSome = false from rfl] at c8
  go_upto_region 12 with (go_at_call 24; refine c8.mono ?_; rintro e w9 ⟨rfl, k9⟩)
  have M9 := M8.more k9
  have s9 := s8.more k9
  have rp9 := rp8.more k9
  clear c8 M8 s8 rp8 k9
  have c9 : Calls Try.prog 11 #[.pointer (some ⟨q, 0, none⟩), .int .i64 0, .int .i64 2] w9 _ := call_yes (clear_map M9 (lba := 0) (n := 2) (by omega) (by omega) (by omega)) x4_is (by simp [x4])
  go_upto_region 13 with (go_at_call 11; refine c9.mono ?_; rintro e w10 ⟨rfl, M10, k10⟩)
  have s10 := s9.keep k10 (fun g e => by injection e with e; injection e with e; subst e; exact o3)
  have rp10 := rp9.keep k10 op6
  clear c9 M9 s9 rp9 k10
  obtain ⟨g0, eg, y0, y1, y2⟩ := s10.at (i := 0) (x := ⟨0, 6, 100⟩) rfl
  injection eg with eg; injection eg with eg; subst eg
  obtain ⟨g1, rfl, z0, z1, z2⟩ := rp10.at (i := 3) (x := ⟨6, 2, -1⟩) rfl
  have hc := rp10.1
  have hc2 := rp10.2.1
  simp only [Nat.zero_mul, Nat.zero_add, Nat.reduceMul, Nat.reduceAdd, List.length_cons, List.length_nil] at y0 y1 y2 z0 z1 z2 hc
  have hcount := count_any M10
  have hcapa := capacity_any M10
  have hmost := most_any M10
  rw [show x4.length = 2 from rfl, show ((2 : Nat) : Int) = 2 from rfl] at hcount
  rw [show ((10 : Nat) : Int) = 10 from rfl] at hcapa
  rw [show ((3 : Nat) : Int) = 3 from rfl] at hmost
  have HK := M10.keep
  clear M10 s10 rp10 op6 o3
  simp only [List.append_eq, List.cons_append, List.nil_append]
  go_wp2_with (first | (go_at_call 12; refine hcount.mono ?_; rintro e w11 ⟨rfl, e11⟩; have e11 := e11.symm; subst e11) | (go_at_call 27; refine hcapa.mono ?_; rintro e w11 ⟨rfl, e11⟩; have e11 := e11.symm; subst e11) | (go_at_call 28; refine hmost.mono ?_; rintro e w11 ⟨rfl, e11⟩; have e11 := e11.symm; subst e11))
  go_ret
  exact ⟨rfl, HK⟩
end Tg
end Go.Proofs.Ytobljchpphcolaa
