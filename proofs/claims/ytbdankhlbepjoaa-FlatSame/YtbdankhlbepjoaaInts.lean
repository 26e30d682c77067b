/-
  Rows of numbers: read, of one's own, set, grown; what the document's own New and Put make.
-/
import Derived.Test.YtbdankhlbepjoaaOlder
namespace Go.Proofs.Ytbdankhlbepjoaa
open Go.ChangeShapes Go.WideShapes Go.ChangeAt Go.RowKit
namespace Tg

set_option maxRecDepth 100000 in
theorem info3 : (Try.prog.info? 3).map (fun i => (i.zero, i.size, i.bytes)) = some (some (.int .i64 0), 1, 8) := by kernel_rfl
set_option maxRecDepth 100000 in
theorem make_ints (n : Nat) (hn : n ≤ 512) (w : World) : (Instr.makeSlice 31 (.int .i64 (n : Int)) (.int .i64 (n : Int))).run Try.prog w =
    .ok (.slice (some ⟨w.heap.size, 0, none⟩) n n) (w.alloc (.cells (madeCells #[.int .i64 0] n) 3)) := by
  obtain ⟨i, hi, hz0, hz1, hz2⟩ := info_parts info3
  have := run_make (P := Try.prog) w 31 3 i _ Try.underlying31 hi hz0 .i64 .i64 n n (by omega) (by omega) (by rw [hz2]; omega) (by omega)
  rw [hz1, Nat.mul_one] at this
  exact this
def ic (xs : List Int) : List Value := xs.map (Value.int .i64)
/-- A row of numbers that can be read. -/
def Is (w : World) (a : Option Addr) (cap : Nat) (xs : List Int) : Prop :=
  xs.length ≤ cap ∧ cap ≤ 9223372036854775807 ∧ (xs = [] ∨ ∃ g, a = some ⟨g, 0, none⟩ ∧ ∀ j u, (ic xs)[j]? = some u → w.cell? ⟨g, j, none⟩ = some u)
theorem Is.keep {S : Nat → Prop} {w w' : World} {a : Option Addr} {cap : Nat} {m : List Int} (h : Is w a cap m) (k : Keep S w w') (hs : ∀ g, a = some ⟨g, 0, none⟩ → ¬ S g) : Is w' a cap m := by
  obtain ⟨h1, h2, h3⟩ := h
  refine ⟨h1, h2, h3.imp id ?_⟩
  rintro ⟨g, rfl, hc⟩
  refine ⟨g, rfl, fun j u hu => ?_⟩
  have := hc j u hu
  rw [← this]
  exact World.cell?_of_block (w := w) (a := ⟨g, j, none⟩) (k.block g (World.block_lt_of_cell? w _ this) (hs g rfl))
theorem Is.more {w w' : World} {a : Option Addr} {cap : Nat} {m : List Int} (h : Is w a cap m) (k : Keep (fun _ => False) w w') : Is w' a cap m := h.keep k (fun _ _ e => e)
theorem Is.at {w : World} {a : Option Addr} {cap : Nat} {m : List Int} (h : Is w a cap m) {i : Nat} (hi : i < m.length) :
    ∃ g, a = some ⟨g, 0, none⟩ ∧ w.cell? ⟨g, i, none⟩ = some (.int .i64 (m.getD i (-1))) := by
  rcases h.2.2 with rfl | ⟨g, rfl, hc⟩
  · simp at hi
  · refine ⟨g, rfl, hc i _ ?_⟩
    simp [ic, hi]
/-- A row of numbers of one's own, in memory made since w0. -/
structure Ri (w0 w : World) (a : Option Addr) (cap : Nat) (m : List Int) : Prop where
  own : w.ownsRow w0.heap.size 3 1 (.slice a m.length cap) m.length (ic m)
  keep : Keep (fun _ => False) w0 w
theorem Ri.more {w0 w w' : World} {a : Option Addr} {cap : Nat} {m : List Int} (h : Ri w0 w a cap m) (k : Keep (fun _ => False) w w') : Ri w0 w' a cap m := by
  refine ⟨⟨h.own.1, h.own.2.imp id ?_⟩, h.keep.trans k⟩
  rintro ⟨g, c, cur, e, hb, hh, h1, h2, h3, h4⟩
  exact ⟨g, c, cur, e, hb, by rw [k.block g (by by_cases hg : g < w.heap.size; exact hg; simp [Array.getElem?_eq_none (Nat.le_of_not_lt hg)] at hh) (fun e => e)]; exact hh, h1, h2, h3, h4⟩
theorem Ri.block {w0 w : World} {a : Option Addr} {cap : Nat} {m : List Int} (h : Ri w0 w a cap m) {g : Nat} (e : a = some ⟨g, 0, none⟩) : w0.heap.size ≤ g ∧ g < w.heap.size :=
  h.own.lt g (by rw [e]; rfl)
theorem Ri.is {w0 w : World} {a : Option Addr} {cap : Nat} {m : List Int} (h : Ri w0 w a cap m) : Is w a cap m := by
  obtain ⟨h1, h2⟩ := h.own
  rcases h2 with ⟨e, hn⟩ | ⟨g, c, cur, e, hb, hh, hn, hm, hs, ht⟩
  · injection e with e1 e2 e3
    exact ⟨by omega, by omega, Or.inl (List.eq_nil_of_length_eq_zero hn)⟩
  · injection e with e1 e2 e3
    subst e1 e3
    unfold maxLen at hm
    refine ⟨hn, by omega, Or.inr ⟨g, rfl, fun j u hu => ?_⟩⟩
    have := h.own.cells (g := g) rfl j u hu
    rwa [Addr.add_lit, Nat.zero_add] at this
theorem Ri.set {w0 w : World} {g cap : Nat} {m : List Int} (h : Ri w0 w (some ⟨g, 0, none⟩) cap m) (i : Nat) (v : Int) :
    Ri w0 (w.setCell ⟨g, i, none⟩ (.int .i64 v)) (some ⟨g, 0, none⟩) cap (m.set i v) := by
  obtain ⟨h1, h2⟩ := h.own.stored i (.int .i64 v)
  have e : (ic m).set i (.int .i64 v) = ic (m.set i v) := by unfold ic; rw [List.map_set]
  rw [e] at h1
  refine ⟨by rw [List.length_set]; exact h1, h.keep.next (keep_grown h2) (fun y hy e => ?_)⟩
  injection e with e
  have := (h.block rfl).1
  omega
theorem Ri.fz {w0 w : World} {g cap : Nat} {m : List Int} (h : Ri w0 w (some ⟨g, 0, none⟩) cap m) (i : Nat) : w.frozen? ⟨g, i, none⟩ = false := h.own.frozenAt i
/-- The row that make makes. -/
theorem ri_made (w : World) (n : Nat) (hn : n ≤ 512) : Ri w (w.alloc (.cells (madeCells #[.int .i64 0] n) 3)) (some ⟨w.heap.size, 0, none⟩) n (List.replicate n 0) := by
  have := World.ownsRow_lit (e := 3) (size := 1) (base := w.heap.size) w (madeCells #[.int .i64 0] n) n (Nat.le_refl _) (by unfold maxLen; omega) (by simp [madeCells])
  rw [toList_madeCells_one] at this
  refine ⟨?_, (Keep.refl _ _).alloc _⟩
  rw [List.length_replicate]
  have e : ic (List.replicate n 0) = List.replicate n (.int .i64 0) := by simp [ic]
  rw [e]; exact this
set_option maxRecDepth 100000 in
/-- A row appended to an empty one. -/
theorem copy_ints {w : World} {a : Option Addr} {c : Nat} {t : List Int} (h : Is w a c t) (h1 : 1 ≤ t.length) (h2 : t.length ≤ 512) :
    ∃ a' c' w', (Builtin.append_ #[31, 31] 31 #[.slice (some ⟨w.heap.size, 0, none⟩) 0 0, .slice a t.length c]).run Try.prog (w.alloc (.cells #[] 3)) = .ok (.slice a' t.length c') w' ∧ Ri w w' a' c' t := by
  obtain ⟨i, hi, hz0, hz1, hz2⟩ := info_parts info3
  have hA := (Keep.refl (fun _ => False) w).alloc (.cells #[] 3)
  have hr := h.more hA
  rcases hr.2.2 with e | ⟨g, rfl, hc⟩
  · rw [e] at h1; simp at h1
  have h0 : (w.alloc (.cells #[] 3)).ownsRow w.heap.size 3 1 (.slice (some ⟨w.heap.size, 0, none⟩) 0 0) 0 [] := World.ownsRow_lit (e := 3) (size := 1) (base := w.heap.size) w #[] 0 (Nat.le_refl _) (by unfold maxLen; omega) rfl
  obtain ⟨v', w', hrun, hown, hgrow, hnil⟩ := run_append_own (P := Try.prog) (w.alloc (.cells #[] 3)) w.heap.size 31 31 3 i _ 1 8 Try.underlying31 hi hz0 hz1 hz2 rfl (by decide) (.slice (some ⟨w.heap.size, 0, none⟩) 0 0) 0 [] h0
    ⟨g, 0, none⟩ t.length c (ic t) (by simp [ic]) (fun j u hu => by rw [Addr.add_lit, Nat.zero_add]; exact hc j u hu) (by intro u hu; obtain ⟨x, _, rfl⟩ := List.mem_map.1 hu; rfl) (by unfold maxLen; omega) (by omega) hA.size
  have hK : Keep (fun _ => False) w w' := hA.next (keep_grown hgrow) (fun y hy e => by injection e with e; have e : y = w.heap.size := e; omega)
  simp only [Nat.zero_add, List.nil_append] at hown
  have hshape : ∃ a' cap', v' = .slice a' t.length cap' := by
    rcases hown.2 with ⟨e, hn⟩ | ⟨g, c', cur, e, -⟩
    · omega
    · exact ⟨_, _, e⟩
  obtain ⟨a', cap', rfl⟩ := hshape
  exact ⟨a', cap', w', hrun, hown, hK⟩

/-- The first i places set to -1. -/
def nw (C : Nat) : Nat → List Int
  | 0 => List.replicate C 0
  | i + 1 => (nw C i).set i (-1)
theorem nw_len (C : Nat) : ∀ i, (nw C i).length = C
  | 0 => by simp [nw]
  | i + 1 => by rw [nw, List.length_set, nw_len C i]
theorem nw_at (C : Nat) : ∀ i j, j < C → (nw C i)[j]? = some (if j < i then -1 else 0)
  | 0, j, h => by simp [nw, h]
  | i + 1, j, h => by
    rw [nw, List.getElem?_set]
    by_cases e : i = j
    · subst e
      rw [if_pos rfl, if_pos (by rw [nw_len]; exact h), if_pos (by omega)]
    · rw [if_neg e, nw_at C i j h]
      congr 1
      by_cases c : j < i
      · rw [if_pos c, if_pos (by omega)]
      · rw [if_neg c, if_neg (by omega)]
theorem nw_end (C : Nat) : nw C C = List.replicate C (-1) := by
  refine List.ext_getElem? (fun j => ?_)
  by_cases h : j < C
  · rw [nw_at C C j h, if_pos h]; simp [h]
  · rw [List.getElem?_eq_none (by rw [nw_len]; omega), List.getElem?_eq_none (by simp; omega)]

set_option maxRecDepth 100000 in
set_option maxHeartbeats 1000000 in
theorem new9 {w : World} {C : Nat} (h2 : C ≤ 512) :
    Calls Try.prog 12 #[.int .i64 (C : Int)] w fun e w' => ∃ a c, e = .returned (.slice a C c) ∧ Ri w w' a c (List.replicate C (-1)) := by
  have hmk := make_ints C h2 w
  have R0 : Ri w (w.alloc (.cells (madeCells #[.int .i64 0] C) 3)) (some ⟨w.heap.size, 0, none⟩) C (nw C 0) := ri_made w C h2
  generalize w.alloc (.cells (madeCells #[.int .i64 0] C) 3) = w1 at hmk R0
  generalize hG : w.heap.size = G at hmk R0
  go_enter Try.func12, Try.ntmps12
  go_wp2_with fail
  clear hmk
  go_loopw [4] (fun v wx => ∃ i : Nat, i ≤ C ∧ v = .int .i64 (i : Int) ∧ Ri w wx (some ⟨G, 0, none⟩) C (nw C i)) (fun v _ => C - (intOf v).toNat)
  case atStart => exact ⟨0, by omega, rfl, R0⟩
  case round =>
    clear R0
    obtain ⟨i, hi, rfl, R1⟩ := hrel
    by_cases hlt : i < C
    · obtain ⟨g, eg, c0⟩ := R1.is.at (i := i) (by rw [nw_len]; exact hlt)
      injection eg with eg; injection eg with eg; subst eg
      have z0 := R1.fz i
      have R2 := R1.set i (-1)
      have di : (i : Int) < (C : Int) := by omega
      have dw := wrapI (x := (i : Int) + 1) (by omega) (by omega)
      have hlt' : Hid (i < C) := hlt
      clear hlt R1
      go_wp2_with fail
      go_roundw
      case rel => exact ⟨i + 1, hlt', by go_num, R2⟩
      case measure => have : i < C := hlt'; simp [intOf]; omega
    · have di : ¬ (i : Int) < (C : Int) := by omega
      have ei : i = C := by omega
      rw [ei, nw_end] at R1
      clear hlt ei
      go_wp2_with fail
      go_ret
      exact ⟨_, _, rfl, R1⟩
set_option maxRecDepth 100000 in
set_option maxHeartbeats 1000000 in
theorem put9 {w : World} {a : Option Addr} {c : Nat} {t : List Int} (h : Is w a c t) (h1 : 1 ≤ t.length) (h2 : t.length ≤ 512) {lba n : Nat} (hr : lba + n ≤ t.length) {phys : Int} (hp : -1 ≤ phys ∧ phys ≤ 1048576) :
    Calls Try.prog 34 #[.slice a t.length c, .int .i64 (lba : Int), .int .i64 (n : Int), .int .i64 phys] w fun e w' => ∃ a' c', e = .returned (.slice a' t.length c') ∧ Ri w w' a' c' (putN t lba phys n) := by
  obtain ⟨a', c', w', happ, R0⟩ := copy_ints h h1 h2
  have R0 : Ri w w' a' c' (putN t lba phys 0) := R0
  have hc' := R0.is.1
  rw [putN_len] at hc'
  clear h
  go_enter Try.func34, Try.ntmps34
  go_wp2_with (at_builtin; refine wpList_append_run rfl (.tmp 11) (.tmp 12) 31 rfl (by rfl) (by rfl) happ ?_)
  clear happ
  go_loopw [10] (fun v wx => ∃ i : Nat, i ≤ n ∧ v = .int .i64 (i : Int) ∧ Ri w wx a' c' (putN t lba phys i)) (fun v _ => n - (intOf v).toNat)
  case atStart => exact ⟨0, by omega, rfl, R0⟩
  case round =>
    clear R0
    obtain ⟨i, hi, rfl, R1⟩ := hrel
    by_cases hlt : i < n
    · obtain ⟨g, rfl, c0⟩ := R1.is.at (i := lba + i) (by rw [putN_len]; omega)
      have z0 := R1.fz (lba + i)
      have R2 := R1.set (lba + i) (-1)
      have di : (i : Int) < (n : Int) := by omega
      have dw := wrapI (x := (i : Int) + 1) (by omega) (by omega)
      have ds := wrapI (x := (lba : Int) + i) (by omega) (by omega)
      have dsl : (lba : Int) + i < (t.length : Int) := by omega
      have ds0 : ¬ (lba : Int) + i < 0 := by omega
      have hlt' : Hid (i < n) := hlt
      by_cases cp : phys < 0
      · have R3 : Ri w (wr.setCell ⟨g, lba + i, none⟩ (.int .i64 (-1))) (some ⟨g, 0, none⟩) c' (putN t lba phys (i + 1)) := by
          rw [putN, if_pos cp]; exact R2
        clear hlt R1 R2
        go_wp2_with fail
        go_roundw
        case rel => exact ⟨i + 1, hlt', by go_num, R3⟩
        case measure => have : i < n := hlt'; simp [intOf]; omega
      · have R3 : Ri w ((wr.setCell ⟨g, lba + i, none⟩ (.int .i64 (-1))).setCell ⟨g, lba + i, none⟩ (.int .i64 (phys + i))) (some ⟨g, 0, none⟩) c' (putN t lba phys (i + 1)) := by
          have := R2.set (lba + i) (phys + i)
          rw [List.set_set] at this
          rw [putN, if_neg cp]; exact this
        have cp' : 0 ≤ phys := by omega
        have dp := wrapI (x := phys + i) (by omega) (by omega)
        clear hlt R1 R2
        go_wp2_with fail
        go_roundw
        case rel => exact ⟨i + 1, hlt', by go_num, R3⟩
        case measure => have : i < n := hlt'; simp [intOf]; omega
    · have di : ¬ (i : Int) < (n : Int) := by omega
      have ei : i = n := by omega
      rw [ei] at R1
      clear hlt ei
      go_wp2_with fail
      go_ret
      exact ⟨_, _, rfl, R1⟩
end Tg
end Go.Proofs.Ytbdankhlbepjoaa
