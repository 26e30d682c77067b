/-
  Rows of changes, of pieces, of runs at any place; changes done one after the other.
-/
import Derived.Test.YtkddonmddgfpnaaSpA
namespace Go.Proofs.Ytkddonmddgfpnaa
open Go.ChangeShapes Go.WideShapes Go.ChangeAt Go.RowKit
namespace Tg

/-- A row of triples, wherever it begins. -/
def Rz (w : World) (a : Option Addr) (cap : Nat) (l : List Rn) : Prop :=
  l.length ≤ cap ∧ cap ≤ 9223372036854775807 ∧ (l = [] ∨ ∃ g o, a = some ⟨g, o, none⟩ ∧ ∀ i x, l[i]? = some x → w.cell? ⟨g, o + i * 3, none⟩ = some (.int .i64 x.lba) ∧ w.cell? ⟨g, o + i * 3 + 1, none⟩ = some (.int .i64 x.len) ∧ w.cell? ⟨g, o + i * 3 + 2, none⟩ = some (.int .i64 x.phys))
/-- Each number fits. -/
def Fits (l : List Rn) : Prop := ∀ x ∈ l, (-9223372036854775808 ≤ x.lba ∧ x.lba ≤ 9223372036854775807) ∧ (-9223372036854775808 ≤ x.len ∧ x.len ≤ 9223372036854775807) ∧ (-9223372036854775808 ≤ x.phys ∧ x.phys ≤ 9223372036854775807)
theorem Rz.keep {S : Nat → Prop} {w w' : World} {a : Option Addr} {cap : Nat} {l : List Rn} (h : Rz w a cap l) (k : Keep S w w') (hs : ∀ g o, a = some ⟨g, o, none⟩ → l ≠ [] → ¬ S g) : Rz w' a cap l := by
  obtain ⟨h1, h2, h3⟩ := h
  by_cases hl : l = []
  · exact ⟨h1, h2, Or.inl hl⟩
  refine ⟨h1, h2, h3.imp id ?_⟩
  rintro ⟨g, o, rfl, hc⟩
  refine ⟨g, o, rfl, fun i x hx => ?_⟩
  obtain ⟨c0, c1, c2⟩ := hc i x hx
  have hb := World.block_lt_of_cell? w _ c0
  have hk := k.block g hb (hs g o rfl hl)
  rw [← c0, ← c1, ← c2]
  exact ⟨World.cell?_of_block (w := w) (a := ⟨g, o + i * 3, none⟩) hk, World.cell?_of_block (w := w) (a := ⟨g, o + i * 3 + 1, none⟩) hk, World.cell?_of_block (w := w) (a := ⟨g, o + i * 3 + 2, none⟩) hk⟩
theorem Rz.more {w w' : World} {a : Option Addr} {cap : Nat} {l : List Rn} (h : Rz w a cap l) (k : Keep (fun _ => False) w w') : Rz w' a cap l := h.keep k (fun _ _ _ _ e => e)
theorem Rz.at {w : World} {a : Option Addr} {cap : Nat} {l : List Rn} (h : Rz w a cap l) {i : Nat} {x : Rn} (hx : l[i]? = some x) :
    ∃ g o, a = some ⟨g, o, none⟩ ∧ w.cell? ⟨g, o + i * 3, none⟩ = some (.int .i64 x.lba) ∧ w.cell? ⟨g, o + i * 3 + 1, none⟩ = some (.int .i64 x.len) ∧ w.cell? ⟨g, o + i * 3 + 2, none⟩ = some (.int .i64 x.phys) := by
  rcases h.2.2 with rfl | ⟨g, o, rfl, hc⟩
  · simp at hx
  · exact ⟨g, o, rfl, hc i x hx⟩
theorem Rs.rz {w : World} {a : Option Addr} {cap : Nat} {m : List Rn} (h : Rs w a cap m) : Rz w a cap m := by
  refine ⟨h.1, h.2.1, ?_⟩
  by_cases c : m = []
  · exact Or.inl c
  · right
    obtain ⟨g, hg, -⟩ := (h.2.2).resolve_left c
    refine ⟨g, 0, hg, fun i x hx => ?_⟩
    obtain ⟨g', hg', h1, h2, h3⟩ := h.at hx
    rw [hg] at hg'
    injection hg' with hg'; injection hg' with hg'; subst hg'
    rw [Nat.zero_add]
    exact ⟨h1, h2, h3⟩
theorem Rz.block {w : World} {g o cap : Nat} {l : List Rn} (h : Rz w (some ⟨g, o, none⟩) cap l) (hl : l ≠ []) : g < w.heap.size := by
  obtain ⟨x, hx⟩ : ∃ x, l[0]? = some x := ⟨_, List.getElem?_eq_getElem (List.length_pos_iff.2 hl)⟩
  obtain ⟨g', o', e, h1, -⟩ := h.at hx
  injection e with e; injection e with e1 e2; subst e1
  exact World.block_lt_of_cell? w _ h1
theorem take_more {α : Type} {l : List α} {i : Nat} {x : α} (h : l[i]? = some x) : l.take (i + 1) = l.take i ++ [x] := by
  rw [List.take_add_one, h]
  rfl
theorem take_rest {α : Type} {l : List α} {i : Nat} {x : α} (h : l[i]? = some x) : l = l.take i ++ x :: l.drop (i + 1) := by
  obtain ⟨hi, e⟩ := List.getElem?_eq_some_iff.1 h
  rw [← e, List.getElem_cons_drop, List.take_append_drop]

/-- What changes one after the other leave. -/
def Did2 (W w : World) (fl : Bool) (q : Nat) (S T : Nat → Prop) (N C : Nat) (y : List Int × Int) (e : Ending) (w' : World) : Prop :=
  e = .returned (.int .i64 y.2) ∧ (∃ u, Sp W w' fl q S T N C u ∧ (y.2 = 0 → u = y.1)) ∧ Keep S w w'
set_option maxRecDepth 100000 in
set_option maxHeartbeats 1000000 in
theorem do_any {W w : World} {fl : Bool} {q N C : Nat} {S T : Nat → Prop} {t : List Int} (h : Sp W w fl q S T N C t) {a : Option Addr} {cap : Nat} {l : List Rn} (hR : Rz w a cap l) (hf : Fits l) (hg : ∀ g o, a = some ⟨g, o, none⟩ → l ≠ [] → ¬ S g) :
    Calls Try.prog 33 #[mapV fl q, .slice a l.length cap] w (Did2 W w fl q S T N C (runL N l t)) := by
  have hlc := hR.1
  have hlc2 := hR.2.1
  have hch := fun (w1 : World) (u : List Int) (x : Rn) (h1 : Sp W w1 fl q S T N C u) (hx : x.lba ≤ 9223372036854775807) => change_any h1 (x := x) hx
  have hsw := fun (w1 : World) (u : List Int) (h1 : Sp W w1 fl q S T N C u) => h1.sw
  unfold Did2
  unfold Chd at hch
  obtain ⟨mv, hmv⟩ : ∃ mv, mv = mapV fl q := ⟨_, rfl⟩
  rw [← hmv] at hch ⊢
  clear hmv hsw
  have hsame : ∀ (wx : World), Keep S w wx → Rz wx a cap l := fun wx k => hR.keep k hg
  have hend : l.take l.length = l := List.take_length
  have h0 : Sp W w fl q S T N C (runL N (l.take 0) t).1 ∧ (runL N (l.take 0) t).2 = 0 ∧ Keep S w w := by
    rw [List.take_zero]; exact ⟨h, rfl, Keep.refl _ _⟩
  clear h hg hR
  go_enter Try.func33, Try.ntmps33
  go_wp2_with fail
  go_loopw [10] (fun v wx => ∃ i : Nat, i ≤ l.length ∧ v = .int .i64 (i : Int) ∧ Sp W wx fl q S T N C (runL N (l.take i) t).1 ∧ (runL N (l.take i) t).2 = 0 ∧ Keep S w wx) (fun v _ => l.length - (intOf v).toNat)
  case atStart => exact ⟨0, by omega, rfl, h0⟩
  case round =>
    clear h0
    obtain ⟨i, hi, rfl, M1, z1, k1⟩ := hrel
    by_cases hlt : i < l.length
    · obtain ⟨x, hx⟩ := get_rn hlt
      obtain ⟨g, o, rfl, c0, c1, c2⟩ := (hsame wr k1).at hx
      have hfx := hf x (List.mem_of_getElem? hx)
      have K2 : Keep (fun _ => False) wr (wr.alloc (.cells #[.int .i64 x.lba, .int .i64 x.len, .int .i64 x.phys] 30)) := (Keep.refl _ _).alloc _
      have c := hch _ _ x (M1.more K2) hfx.1.2
      have hbad : ¬ (stepL N (runL N (l.take i) t).1 x).2 = 0 → (runL N l t).2 = (stepL N (runL N (l.take i) t).1 x).2 := fun hz => by
        have := runL_bad (b := l.drop (i + 1)) z1 hz
        rwa [← take_rest hx] at this
      have hgood : (stepL N (runL N (l.take i) t).1 x).2 = 0 → runL N (l.take (i + 1)) t = ((stepL N (runL N (l.take i) t).1 x).1, 0) := fun hz => by
        rw [take_more hx]; exact runL_good z1 hz
      have di : (i : Int) < (l.length : Int) := by omega
      have dw := wrapI (x := (i : Int) + 1) (by omega) (by omega)
      have hlt' : Hid (i < l.length) := hlt
      have k2 : Keep S w (wr.alloc (.cells #[.int .i64 x.lba, .int .i64 x.len, .int .i64 x.phys] 30)) := k1.trans (K2.mono (fun _ _ e => e.elim))
      clear hlt hf hch hsame hend M1 K2 hfx k1 z1
      generalize stepL N (runL N (l.take i) t).1 x = y at c hbad hgood
      by_cases hy : y.2 = 0
      · have hyb : (y.2 == 0) = true := by simp [hy]
        have hn := hgood hy
        rw [hy] at c
        have hn' : Hid (runL N (l.take (i + 1)) t = (y.1, 0)) := hn
        clear hbad hgood hyb hn hy
        go_wp2_with (go_at_call 50; refine c.mono ?_; rintro e w3 ⟨rfl, M3, k3⟩)
        go_roundw
        case rel => exact ⟨i + 1, hlt', by go_num, by rw [show runL N (l.take (i + 1)) t = (y.1, 0) from hn']; exact M3, by rw [show runL N (l.take (i + 1)) t = (y.1, 0) from hn'], k2.trans k3⟩
        case measure => have : i < l.length := hlt'; simp [intOf]; omega
      · have hyb : (y.2 == 0) = false := by simp [hy]
        have hn' : Hid ((runL N l t).2 = y.2) := hbad hy
        have hy' : Hid (¬ y.2 = 0) := hy
        clear hbad hgood hy
        go_wp2_with (go_at_call 50; refine c.mono ?_; rintro e w3 ⟨rfl, M3, k3⟩)
        go_ret
        exact ⟨by rw [show (runL N l t).2 = y.2 from hn']; rfl, ⟨_, M3, fun e => absurd ((show (runL N l t).2 = y.2 from hn').symm.trans e) hy'⟩, k2.trans k3⟩
    · have di : ¬ (i : Int) < (l.length : Int) := by omega
      have ei : i = l.length := by omega
      rw [ei, hend] at M1 z1
      have z1' : Hid ((runL N l t).2 = 0) := z1
      clear hlt ei hch hsame hend z1
      go_wp2_with fail
      go_ret
      exact ⟨by rw [show (runL N l t).2 = 0 from z1']; rfl, ⟨_, M1, fun _ => rfl⟩, k1⟩
end Tg
end Go.Proofs.Ytkddonmddgfpnaa
