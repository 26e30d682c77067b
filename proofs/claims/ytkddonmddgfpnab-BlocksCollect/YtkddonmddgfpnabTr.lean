/-
  A list of calls as an argument: each is four cells; a call as an argument. What the document's own Right and Same do. Maps made since an elder world; variables that hold a call. Rows of numbers: read, of one's own, set, grown; what the document's own New and Put make. The document's own runs of a list of pages. The document's own cut, pieces held against each other, the document's own Set.
-/
import Derived.Test.YtkddonmddgfpnabTf
import Derived.Deep.Slices
import Derived.Deep.CutBlock
namespace Go.Proofs.Ytkddonmddgfpnab
open Go.ChangeShapes Go.WideShapes Go.ChangeAt Go.RowKit
namespace Tg

theorem cells3 : Try.prog.cellsOf 3 = 1 := by kernel_rfl
theorem int_fits {n : Int} (h : (Lit.int .i64 n).wf = true) : -9223372036854775808 ≤ n ∧ n ≤ 9223372036854775807 := by
  have h1 : IntKind.i64.min = -9223372036854775808 := by rfl
  have h2 : IntKind.i64.max = 9223372036854775807 := by rfl
  simp [Lit.wf] at h
  omega
theorem cells_get {w : World} {base : Nat} {a : Addr} {n : Nat} {cs : List Value} (h : w.cells? base a n = some cs) : ∀ i, i < n → w.cell? (a.add i) = cs[i]? := by
  unfold World.cells? at h
  split at h
  · intro i hi
    have := mapM_some_get h i i (by simp [hi])
    exact this
  · cases h

end Tg
end Go.Proofs.Ytkddonmddgfpnab
namespace Go.Proofs.Ytkddonmddgfpnab
open Go.ChangeShapes Go.WideShapes Go.ChangeAt Go.RowKit
namespace Tg

/-- Are two lists of runs the same? -/
def sameL : List Rn → List Rn → Bool
  | [], [] => true
  | x :: a, y :: b => (x.lba == y.lba && (x.len == y.len && x.phys == y.phys)) && sameL a b
  | [], _ :: _ => false
  | _ :: _, [] => false
theorem rn_eq {x y : Rn} : (x.lba == y.lba && (x.len == y.len && x.phys == y.phys)) = true ↔ x = y := by
  cases x; cases y; simp
theorem sameL_iff : ∀ {a b : List Rn}, sameL a b = true ↔ a = b
  | [], [] => by simp [sameL]
  | [], y :: b => by simp [sameL]
  | x :: a, [] => by simp [sameL]
  | x :: a, y :: b => by
    rw [sameL, Bool.and_eq_true, rn_eq, sameL_iff, List.cons.injEq]
theorem sameL_take {a b : List Rn} {i : Nat} (hl : a.length = b.length) (h : a.take i = b.take i) (hi : i = a.length) : a = b := by
  rwa [List.take_of_length_le (by omega), List.take_of_length_le (by omega)] at h

set_option maxRecDepth 100000 in
set_option maxHeartbeats 1000000 in
theorem same9 {w : World} {a1 a2 : Option Addr} {c1 c2 : Nat} {m1 m2 : List Rn} (h1 : Rs w a1 c1 m1) (h2 : Rs w a2 c2 m2) (hl1 : m1.length ≤ 100000) :
    Calls Try.prog 16 #[.slice a1 m1.length c1, .slice a2 m2.length c2] w fun e w' => e = .returned (.bool (sameL m1 m2)) ∧ Keep (fun _ => False) w w' := by
  have K0 := Keep.refl (fun _ => False) w
  have hc1 := h1.1
  have hc2 := h2.1
  by_cases hl : m1.length = m2.length
  · have hb : ((m1.length : Int) != (m2.length : Int)) = false := by simp [hl]
    have hl' : Hid (m1.length = m2.length) := hl
    have hl1' : (m1.length : Int) ≤ 100000 := by omega
    have hm2 : (m2.length : Int) = (m1.length : Int) := by omega
    have hm2' : Hid ((m2.length : Int) = (m1.length : Int)) := hm2
    clear hl hl1 hm2
    go_enter Try.func16, Try.ntmps16
    go_wp2_with fail
    go_loopw [5] (fun v wx => ∃ i : Nat, i ≤ m1.length ∧ v = .int .i64 (i : Int) ∧ Hid (m1.take i = m2.take i) ∧ Keep (fun _ => False) w wx) (fun v _ => m1.length - (intOf v).toNat)
    case atStart => exact ⟨0, by omega, rfl, by show m1.take 0 = m2.take 0; simp, K0⟩
    case round =>
      obtain ⟨i, hi, rfl, hI, k1⟩ := hrel
      by_cases hlt : i < m1.length
      · have hlt2 : i < m2.length := by have := show m1.length = m2.length from hl'; omega
        obtain ⟨x, hx⟩ := get_rn hlt
        obtain ⟨y, hy⟩ := get_rn hlt2
        obtain ⟨g1, rfl, e0, e1, e2⟩ := (h1.more k1).at hx
        obtain ⟨g2, rfl, f0, f1, f2⟩ := (h2.more k1).at hy
        have di : (i : Int) < (m1.length : Int) := by omega
        have di2 : (i : Int) < (m2.length : Int) := by omega
        have dw := wrapI (x := (i : Int) + 1) (by omega) (by omega)
        have hlt' : Hid (i < m1.length) := hlt
        have t1 : Hid (m1.take (i + 1) = m1.take i ++ [x]) := take_next hx
        have t2 : Hid (m2.take (i + 1) = m2.take i ++ [y]) := take_next hy
        by_cases e : x = y
        · subst e
          have hI2 : Hid (m1.take (i + 1) = m2.take (i + 1)) := by
            show m1.take (i + 1) = m2.take (i + 1)
            rw [show m1.take (i + 1) = _ from t1, show m2.take (i + 1) = _ from t2, show m1.take i = m2.take i from hI]
          clear hx hy hlt hlt2 hI t1 t2
          go_wp2_with fail
          go_quiet (fail)
          go_wp2_with fail
          go_roundw
          case rel => exact ⟨i + 1, hlt', by go_num, hI2, k1.drewN _⟩
          case measure => have : i < m1.length := hlt'; simp [intOf]; omega
        · have hne : Hid (sameL m1 m2 = false) := by
            show sameL m1 m2 = false
            rw [Bool.eq_false_iff]
            intro hs
            have := sameL_iff.1 hs
            subst this
            rw [hx] at hy
            injection hy with hy
            exact e hy
          clear hx hy hlt hlt2 hI t1 t2 h1 h2
          by_cases u1 : x.lba = y.lba
          · have v1 : (x.lba == y.lba) = true := by simp [u1]
            by_cases u2 : x.len = y.len
            · have v2 : (x.len == y.len) = true := by simp [u2]
              have v3 : (x.phys == y.phys) = false := by
                simp
                intro u3
                exact e (by cases x; cases y; simp only at u1 u2 u3; subst u1; subst u2; subst u3; rfl)
              clear e u1 u2
              go_wp2_with fail
              go_quiet (fail)
              go_wp2_with fail
              go_ret
              exact ⟨by rw [show sameL m1 m2 = false from hne]; rfl, k1.drewN _⟩
            · have v2 : (x.len == y.len) = false := by simp [u2]
              clear e u1 u2
              go_wp2_with fail
              go_quiet (fail)
              go_wp2_with fail
              go_ret
              exact ⟨by rw [show sameL m1 m2 = false from hne]; rfl, k1.drewN _⟩
          · have v1 : (x.lba == y.lba) = false := by simp [u1]
            clear e u1
            go_wp2_with fail
            go_quiet (fail)
            go_wp2_with fail
            go_ret
            exact ⟨by rw [show sameL m1 m2 = false from hne]; rfl, k1.drewN _⟩
      · have di : ¬ (i : Int) < (m1.length : Int) := by omega
        have he : Hid (sameL m1 m2 = true) := sameL_iff.2 (sameL_take hl' hI (by omega))
        clear hlt h1 h2
        go_wp2_with fail
        go_ret
        exact ⟨by rw [show sameL m1 m2 = true from he]; rfl, k1⟩
  · have hb : ((m1.length : Int) != (m2.length : Int)) = true := by simp; omega
    have hne : Hid (sameL m1 m2 = false) := by
      show sameL m1 m2 = false
      rw [Bool.eq_false_iff]
      intro hs
      exact hl (by rw [sameL_iff.1 hs])
    clear hl h1 h2
    go_enter Try.func16, Try.ntmps16
    go_wp2_with fail
    go_ret
    exact ⟨by rw [show sameL m1 m2 = false from hne]; rfl, K0⟩
end Tg
end Go.Proofs.Ytkddonmddgfpnab
namespace Go.Proofs.Ytkddonmddgfpnab
open Go.ChangeShapes Go.WideShapes Go.ChangeAt Go.RowKit
namespace Tg

theorem Mt.older {w w0 wr : World} {b p k N : Nat} {l : List Nat} {t : Tr} (h : Mt w wr b p k N l t) (hk : Keep (fun _ => False) w0 w) : Mt w0 wr b p k N l t :=
  ⟨h.ex, by have := h.b; have := hk.size; omega, by have := h.p; have := hk.size; omega, by have := h.k; have := hk.size; omega, hk.trans h.keep⟩
theorem Mp.older {w w0 wr : World} {q b p k N cap : Nat} {m : List Rn} (h : Mp w wr q b p k N cap m) (hk : Keep (fun _ => False) w0 w) : Mp w0 wr q b p k N cap m := by
  obtain ⟨l, t, hT, e⟩ := h.ex
  exact ⟨⟨l, t, hT.older hk, e⟩, h.top, by have := h.qw; have := hk.size; omega, h.qb, h.qp, h.qk, h.form, h.lim, h.cap1, h.cap2, h.N1, h.N2⟩
theorem Mp.blocks {w wr : World} {q b p k N cap : Nat} {m : List Rn} (h : Mp w wr q b p k N cap m) : w.heap.size ≤ q ∧ w.heap.size ≤ b ∧ w.heap.size ≤ p ∧ w.heap.size ≤ k := by
  obtain ⟨l, t, hT, e⟩ := h.ex
  exact ⟨h.qw, hT.b, hT.p, hT.k⟩
theorem Keep.cell {w w' : World} (k : Keep (fun _ => False) w w') {a : Addr} {v : Value} (h : w.cell? a = some v) : w'.cell? a = some v := by
  rw [← h]
  exact World.cell?_of_block (w := w) (k.block a.block (World.block_lt_of_cell? w _ h) (fun e => e))

end Tg
end Go.Proofs.Ytkddonmddgfpnab
namespace Go.Proofs.Ytkddonmddgfpnab
open Go.ChangeShapes Go.WideShapes Go.ChangeAt Go.RowKit
namespace Tg

set_option maxRecDepth 100000 in
theorem info3 : (Try.prog.info? 3).map (fun i => (i.zero, i.size, i.bytes)) = some (some (.int .i64 0), 1, 8) := by kernel_rfl
set_option maxRecDepth 100000 in
theorem make_ints (n : Nat) (hn : n ≤ 512) (w : World) : (Instr.makeSlice 23 (.int .i64 (n : Int)) (.int .i64 (n : Int))).run Try.prog w =
    .ok (.slice (some ⟨w.heap.size, 0, none⟩) n n) (w.alloc (.cells (madeCells #[.int .i64 0] n) 3)) := by
  obtain ⟨i, hi, hz0, hz1, hz2⟩ := info_parts info3
  have := run_make (P := Try.prog) w 23 3 i _ Try.underlying23 hi hz0 .i64 .i64 n n (by omega) (by omega) (by rw [hz2]; omega) (by omega)
  rw [hz1, Nat.mul_one] at this
  exact this
def ic (xs : List Int) : List Value := xs.map (Value.int .i64)
/-- A row of numbers that can be read. -/
def Is (w : World) (a : Option Addr) (cap : Nat) (xs : List Int) : Prop :=
  xs.length ≤ cap ∧ cap ≤ 9223372036854775807 ∧ (xs = [] ∨ ∃ g, a = some ⟨g, 0, none⟩ ∧ ∀ j u, (ic xs)[j]? = some u → w.cell? ⟨g, j, none⟩ = some u)
theorem Is.keep {S : Nat → Prop} {w w' : World} {a : Option Addr} {cap : Nat} {m : List Int} (h : Is w a cap m) (k : Keep S w w') (hs : ∀ g, a = some ⟨g, 0, none⟩ → ¬ S g) : Is w' a cap m := by
  obtain ⟨h1, h2, h3⟩ := h
  refine ⟨h1, h2, h3.imp id ?_⟩
  rintro ⟨g, rfl, hc⟩
  refine ⟨g, rfl, fun j u hu => ?_⟩
  have := hc j u hu
  rw [← this]
  exact World.cell?_of_block (w := w) (a := ⟨g, j, none⟩) (k.block g (World.block_lt_of_cell? w _ this) (hs g rfl))
theorem Is.more {w w' : World} {a : Option Addr} {cap : Nat} {m : List Int} (h : Is w a cap m) (k : Keep (fun _ => False) w w') : Is w' a cap m := h.keep k (fun _ _ e => e)
theorem Is.at {w : World} {a : Option Addr} {cap : Nat} {m : List Int} (h : Is w a cap m) {i : Nat} (hi : i < m.length) :
    ∃ g, a = some ⟨g, 0, none⟩ ∧ w.cell? ⟨g, i, none⟩ = some (.int .i64 (m.getD i (-1))) := by
  rcases h.2.2 with rfl | ⟨g, rfl, hc⟩
  · simp at hi
  · refine ⟨g, rfl, hc i _ ?_⟩
    simp [ic, hi]
/-- A row of numbers of one's own, in memory made since w0. -/
structure Ri (w0 w : World) (a : Option Addr) (cap : Nat) (m : List Int) : Prop where
  own : w.ownsRow w0.heap.size 3 1 (.slice a m.length cap) m.length (ic m)
  keep : Keep (fun _ => False) w0 w
theorem Ri.more {w0 w w' : World} {a : Option Addr} {cap : Nat} {m : List Int} (h : Ri w0 w a cap m) (k : Keep (fun _ => False) w w') : Ri w0 w' a cap m := by
  refine ⟨⟨h.own.1, h.own.2.imp id ?_⟩, h.keep.trans k⟩
  rintro ⟨g, c, cur, e, hb, hh, h1, h2, h3, h4⟩
  exact ⟨g, c, cur, e, hb, by rw [k.block g (by by_cases hg : g < w.heap.size; exact hg; simp [Array.getElem?_eq_none (Nat.le_of_not_lt hg)] at hh) (fun e => e)]; exact hh, h1, h2, h3, h4⟩
theorem Ri.block {w0 w : World} {a : Option Addr} {cap : Nat} {m : List Int} (h : Ri w0 w a cap m) {g : Nat} (e : a = some ⟨g, 0, none⟩) : w0.heap.size ≤ g ∧ g < w.heap.size :=
  h.own.lt g (by rw [e]; rfl)
theorem Ri.is {w0 w : World} {a : Option Addr} {cap : Nat} {m : List Int} (h : Ri w0 w a cap m) : Is w a cap m := by
  obtain ⟨h1, h2⟩ := h.own
  rcases h2 with ⟨e, hn⟩ | ⟨g, c, cur, e, hb, hh, hn, hm, hs, ht⟩
  · injection e with e1 e2 e3
    exact ⟨by omega, by omega, Or.inl (List.eq_nil_of_length_eq_zero hn)⟩
  · injection e with e1 e2 e3
    subst e1 e3
    unfold maxLen at hm
    refine ⟨hn, by omega, Or.inr ⟨g, rfl, fun j u hu => ?_⟩⟩
    have := h.own.cells (g := g) rfl j u hu
    rwa [Addr.add_lit, Nat.zero_add] at this
theorem Ri.set {w0 w : World} {g cap : Nat} {m : List Int} (h : Ri w0 w (some ⟨g, 0, none⟩) cap m) (i : Nat) (v : Int) :
    Ri w0 (w.setCell ⟨g, i, none⟩ (.int .i64 v)) (some ⟨g, 0, none⟩) cap (m.set i v) := by
  obtain ⟨h1, h2⟩ := h.own.stored i (.int .i64 v)
  have e : (ic m).set i (.int .i64 v) = ic (m.set i v) := by unfold ic; rw [List.map_set]
  rw [e] at h1
  refine ⟨by rw [List.length_set]; exact h1, h.keep.next (keep_grown h2) (fun y hy e => ?_)⟩
  injection e with e
  have := (h.block rfl).1
  omega
theorem Ri.fz {w0 w : World} {g cap : Nat} {m : List Int} (h : Ri w0 w (some ⟨g, 0, none⟩) cap m) (i : Nat) : w.frozen? ⟨g, i, none⟩ = false := h.own.frozenAt i
/-- The row that make makes. -/
theorem ri_made (w : World) (n : Nat) (hn : n ≤ 512) : Ri w (w.alloc (.cells (madeCells #[.int .i64 0] n) 3)) (some ⟨w.heap.size, 0, none⟩) n (List.replicate n 0) := by
  have := World.ownsRow_lit (e := 3) (size := 1) (base := w.heap.size) w (madeCells #[.int .i64 0] n) n (Nat.le_refl _) (by unfold maxLen; omega) (by simp [madeCells])
  rw [toList_madeCells_one] at this
  refine ⟨?_, (Keep.refl _ _).alloc _⟩
  rw [List.length_replicate]
  have e : ic (List.replicate n 0) = List.replicate n (.int .i64 0) := by simp [ic]
  rw [e]; exact this
set_option maxRecDepth 100000 in
/-- A row appended to an empty one. -/
theorem copy_ints {w : World} {a : Option Addr} {c : Nat} {t : List Int} (h : Is w a c t) (h1 : 1 ≤ t.length) (h2 : t.length ≤ 512) :
    ∃ a' c' w', (Builtin.append_ #[23, 23] 23 #[.slice (some ⟨w.heap.size, 0, none⟩) 0 0, .slice a t.length c]).run Try.prog (w.alloc (.cells #[] 3)) = .ok (.slice a' t.length c') w' ∧ Ri w w' a' c' t := by
  obtain ⟨i, hi, hz0, hz1, hz2⟩ := info_parts info3
  have hA := (Keep.refl (fun _ => False) w).alloc (.cells #[] 3)
  have hr := h.more hA
  rcases hr.2.2 with e | ⟨g, rfl, hc⟩
  · rw [e] at h1; simp at h1
  have h0 : (w.alloc (.cells #[] 3)).ownsRow w.heap.size 3 1 (.slice (some ⟨w.heap.size, 0, none⟩) 0 0) 0 [] := World.ownsRow_lit (e := 3) (size := 1) (base := w.heap.size) w #[] 0 (Nat.le_refl _) (by unfold maxLen; omega) rfl
  obtain ⟨v', w', hrun, hown, hgrow, hnil⟩ := run_append_own (P := Try.prog) (w.alloc (.cells #[] 3)) w.heap.size 23 23 3 i _ 1 8 Try.underlying23 hi hz0 hz1 hz2 rfl (by decide) (.slice (some ⟨w.heap.size, 0, none⟩) 0 0) 0 [] h0
    ⟨g, 0, none⟩ t.length c (ic t) (by simp [ic]) (fun j u hu => by rw [Addr.add_lit, Nat.zero_add]; exact hc j u hu) (by intro u hu; obtain ⟨x, _, rfl⟩ := List.mem_map.1 hu; rfl) (by unfold maxLen; omega) (by omega) hA.size
  have hK : Keep (fun _ => False) w w' := hA.next (keep_grown hgrow) (fun y hy e => by injection e with e; have e : y = w.heap.size := e; omega)
  simp only [Nat.zero_add, List.nil_append] at hown
  have hshape : ∃ a' cap', v' = .slice a' t.length cap' := by
    rcases hown.2 with ⟨e, hn⟩ | ⟨g, c', cur, e, -⟩
    · omega
    · exact ⟨_, _, e⟩
  obtain ⟨a', cap', rfl⟩ := hshape
  exact ⟨a', cap', w', hrun, hown, hK⟩

/-- The first i places set to -1. -/
def nw (C : Nat) : Nat → List Int
  | 0 => List.replicate C 0
  | i + 1 => (nw C i).set i (-1)
theorem nw_len (C : Nat) : ∀ i, (nw C i).length = C
  | 0 => by simp [nw]
  | i + 1 => by rw [nw, List.length_set, nw_len C i]
theorem nw_at (C : Nat) : ∀ i j, j < C → (nw C i)[j]? = some (if j < i then -1 else 0)
  | 0, j, h => by simp [nw, h]
  | i + 1, j, h => by
    rw [nw, List.getElem?_set]
    by_cases e : i = j
    · subst e
      rw [if_pos rfl, if_pos (by rw [nw_len]; exact h), if_pos (by omega)]
    · rw [if_neg e, nw_at C i j h]
      congr 1
      by_cases c : j < i
      · rw [if_pos c, if_pos (by omega)]
      · rw [if_neg c, if_neg (by omega)]
theorem nw_end (C : Nat) : nw C C = List.replicate C (-1) := by
  refine List.ext_getElem? (fun j => ?_)
  by_cases h : j < C
  · rw [nw_at C C j h, if_pos h]; simp [h]
  · rw [List.getElem?_eq_none (by rw [nw_len]; omega), List.getElem?_eq_none (by simp; omega)]

set_option maxRecDepth 100000 in
set_option maxHeartbeats 1000000 in
theorem new9 {w : World} {C : Nat} (h2 : C ≤ 512) :
    Calls Try.prog 29 #[.int .i64 (C : Int)] w fun e w' => ∃ a c, e = .returned (.slice a C c) ∧ Ri w w' a c (List.replicate C (-1)) := by
  have hmk := make_ints C h2 w
  have R0 : Ri w (w.alloc (.cells (madeCells #[.int .i64 0] C) 3)) (some ⟨w.heap.size, 0, none⟩) C (nw C 0) := ri_made w C h2
  generalize w.alloc (.cells (madeCells #[.int .i64 0] C) 3) = w1 at hmk R0
  generalize hG : w.heap.size = G at hmk R0
  go_enter Try.func29, Try.ntmps29
  go_wp2_with fail
  clear hmk
  go_loopw [4] (fun v wx => ∃ i : Nat, i ≤ C ∧ v = .int .i64 (i : Int) ∧ Ri w wx (some ⟨G, 0, none⟩) C (nw C i)) (fun v _ => C - (intOf v).toNat)
  case atStart => exact ⟨0, by omega, rfl, R0⟩
  case round =>
    clear R0
    obtain ⟨i, hi, rfl, R1⟩ := hrel
    by_cases hlt : i < C
    · obtain ⟨g, eg, c0⟩ := R1.is.at (i := i) (by rw [nw_len]; exact hlt)
      injection eg with eg; injection eg with eg; subst eg
      have z0 := R1.fz i
      have R2 := R1.set i (-1)
      have di : (i : Int) < (C : Int) := by omega
      have dw := wrapI (x := (i : Int) + 1) (by omega) (by omega)
      have hlt' : Hid (i < C) := hlt
      clear hlt R1
      go_wp2_with fail
      go_roundw
      case rel => exact ⟨i + 1, hlt', by go_num, R2⟩
      case measure => have : i < C := hlt'; simp [intOf]; omega
    · have di : ¬ (i : Int) < (C : Int) := by omega
      have ei : i = C := by omega
      rw [ei, nw_end] at R1
      clear hlt ei
      go_wp2_with fail
      go_ret
      exact ⟨_, _, rfl, R1⟩
end Tg
end Go.Proofs.Ytkddonmddgfpnab
namespace Go.Proofs.Ytkddonmddgfpnab
open Go.ChangeShapes Go.WideShapes Go.ChangeAt Go.RowKit
namespace Tg

theorem grow_len : ∀ m : List Rn, (grow m).length = m.length
  | [] => rfl
  | [x] => rfl
  | x :: y :: m => by rw [grow, List.length_cons, grow_len (y :: m)]; rfl
theorem refR_len (t : List Int) : ∀ i, (refR t i).length ≤ i
  | 0 => by simp [refR]
  | i + 1 => by
    have := refR_len t i
    rw [refR]
    split
    · omega
    · split
      · rw [grow_len]; omega
      · simp; omega
/-- Bounds of a list of pages. -/
def Tab (t : List Int) : Prop := ∀ i, -1 ≤ t.getD i (-1) ∧ t.getD i (-1) ≤ 1049088
set_option maxRecDepth 100000 in
/-- An empty row, made. -/
theorem rr_made (w : World) : (Instr.makeSlice 27 (.int .i64 0) (.int .i64 0)).run Try.prog w = .ok (.slice (some ⟨w.heap.size, 0, none⟩) 0 0) (w.alloc (.cells (madeCells #[.int .i64 0, .int .i64 0, .int .i64 0] (0 * 3)) 35)) ∧ Rr w (w.alloc (.cells (madeCells #[.int .i64 0, .int .i64 0, .int .i64 0] (0 * 3)) 35)) (some ⟨w.heap.size, 0, none⟩) 0 [] := by
  refine ⟨make_runs 0 (by omega) w, ?_, (Keep.refl _ _).alloc _⟩
  have e : madeCells #[.int .i64 0, .int .i64 0, .int .i64 0] (0 * 3) = #[] := by simp [madeCells]
  rw [e]
  exact World.ownsRow_lit (e := 35) (size := 3) (base := w.heap.size) w #[] 0 (Nat.le_refl _) (by unfold maxLen; omega) rfl

set_option maxRecDepth 100000 in
set_option maxHeartbeats 2000000 in
theorem runs9 {w : World} {a : Option Addr} {c : Nat} {t : List Int} (h : Is w a c t) (h2 : t.length ≤ 512) (hb : Tab t) :
    Calls Try.prog 30 #[.slice a t.length c] w fun e w' => ∃ a' c', e = .returned (.slice a' (refR t t.length).length c') ∧ Rr w w' a' c' (refR t t.length) := by
  obtain ⟨hmk, R0⟩ := rr_made w
  have R0 : Rr w (w.alloc (.cells (madeCells #[.int .i64 0, .int .i64 0, .int .i64 0] (0 * 3)) 35)) (some ⟨w.heap.size, 0, none⟩) 0 (refR t 0) := R0
  generalize w.alloc (.cells (madeCells #[.int .i64 0, .int .i64 0, .int .i64 0] (0 * 3)) 35) = w1 at hmk R0
  generalize hG : w.heap.size = G at hmk R0
  have hc := h.1
  have hl : (t.length : Int) ≤ 512 := by omega
  go_enter Try.func30, Try.ntmps30
  go_wp2_with fail
  clear hmk
  go_loopw [3, 4] (fun lv v wx => ∃ (i : Nat) (a' : Option Addr) (c' : Nat), i ≤ t.length ∧ lv = .slice a' (refR t i).length c' ∧ v = .int .i64 (i : Int) ∧ Rr w wx a' c' (refR t i)) (fun _ v _ => t.length - (intOf v).toNat)
  case atStart => exact ⟨0, _, _, by omega, rfl, rfl, R0⟩
  case round =>
    clear R0
    obtain ⟨i, a', c', hi, rfl, rfl, R1⟩ := hrel
    by_cases hlt : i < t.length
    · obtain ⟨g, rfl, ci⟩ := (h.more R1.keep).at hlt
      have hbi := hb i
      have hstep : refR t (i + 1) = if t.getD i (-1) < 0 then refR t i else if 0 < i ∧ 0 ≤ t.getD (i - 1) (-1) ∧ t.getD (i - 1) (-1) + 1 = t.getD i (-1) then grow (refR t i) else refR t i ++ [⟨(i : Int), 1, t.getD i (-1)⟩] := by rw [refR]
      have hlast := (refR_ok t i).last
      have hfm := (refR_ok t i).form
      have hln := refR_len t i
      have di : (i : Int) < (t.length : Int) := by omega
      have dw := wrapI (x := (i : Int) + 1) (by omega) (by omega)
      have hlt' : Hid (i < t.length) := hlt
      have hcj : ∀ j, j + 1 = i → wr.cell? ⟨g, j, none⟩ = some (.int .i64 (t.getD j (-1))) := fun j hj => by
        obtain ⟨g', eg, cj⟩ := (h.more R1.keep).at (i := j) (by omega)
        injection eg with eg; injection eg with eg; subst eg; exact cj
      have hbj := fun j => hb j
      generalize hX : t.getD i (-1) = X at ci hbi hstep
      clear h hb
      by_cases c0 : X < 0
      · rw [if_pos c0] at hstep
        have R2 : Rr w wr a' c' (refR t (i + 1)) := by rw [hstep]; exact R1
        have hE : Hid ((refR t (i + 1)).length = (refR t i).length) := by show (refR t (i + 1)).length = _; rw [hstep]
        clear hlast hfm hcj hbj R1 hstep hX
        go_wp2_with fail
        go_roundw
        case rel => exact ⟨i + 1, a', c', hlt', by rw [show (refR t (i + 1)).length = _ from hE], by go_num, R2⟩
        case measure => have : i < t.length := hlt'; simp [intOf]; omega
      · rw [if_neg c0] at hstep
        have c0' : 0 ≤ X := by omega
        -- where no run goes on
        have hnew : refR t (i + 1) = refR t i ++ [⟨(i : Int), 1, X⟩] → ∀ w2, Keep (fun _ => False) wr w2 → ∃ a2 c2 w3, (Builtin.append_ #[27, 27] 27 #[.slice a' (refR t i).length c', .slice (some ⟨w2.heap.size, 0, none⟩) 1 1]).run Try.prog (w2.alloc (.cells #[.int .i64 (i : Int), .int .i64 1, .int .i64 X] 35)) = .ok (.slice a2 ((refR t i).length + 1) c2) w3 ∧ Rr w w3 a2 c2 (refR t (i + 1)) ∧ (refR t (i + 1)).length = (refR t i).length + 1 := fun e w2 k2 => by
          obtain ⟨a2, c2, w3, h1, h2⟩ := (R1.more k2).app1 (by omega) ⟨(i : Int), 1, X⟩
          exact ⟨a2, c2, w3, h1, by rw [e]; exact h2, by rw [e]; simp⟩
        by_cases hz : i = 0
        · have dz : ¬ (0 : Int) < (i : Int) := by omega
          have dzb : decide ((0 : Int) < (i : Int)) = false := decide_eq_false dz
          have dzc : decide (0 < i) = false := decide_eq_false (by omega)
          rw [if_neg (by omega)] at hstep
          have hn := hnew hstep
          clear hlast hfm hcj hbj hstep hnew hX hz
          go_upto_region 6 with fail
          go_quiet (fail)
          have k2 := (Keep.refl (fun _ => False) wr).drewN nq
          have ci2 := k2.cell ci
          generalize wr.drewN nq = w2 at k2 ci2 ⊢
          obtain ⟨a2, c2, w3, happ, R3, hE⟩ := hn w2 k2
          have hE' : Hid ((refR t (i + 1)).length = (refR t i).length + 1) := hE
          clear hn hE R1 ci k2
          go_wp2_with (at_builtin; refine wpList_append_run rfl (.tmp 50) (.tmp 57) 27 rfl (by rfl) (by rfl) happ ?_)
          go_roundw
          case rel => exact ⟨i + 1, a2, c2, hlt', by rw [show (refR t (i + 1)).length = _ from hE'], by go_num, R3⟩
          case measure => have : i < t.length := hlt'; simp [intOf]; omega
        · obtain ⟨j, hij⟩ : ∃ j, j + 1 = i := ⟨i - 1, by omega⟩
          have cj := hcj j hij
          have bj := hbj j
          have ej : i - 1 = j := by omega
          rw [ej] at hstep hlast
          have dz : (0 : Int) < (i : Int) := by omega
          have dzb : decide ((0 : Int) < (i : Int)) = true := decide_eq_true dz
          have dzc : decide (0 < i) = true := decide_eq_true (by omega)
          have djw : IntKind.i64.wrap ((i : Int) - 1) = (j : Int) := (wrapI (x := (i : Int) - 1) (by omega) (by omega)).trans (by omega)
          have djl : (j : Int) < (t.length : Int) := by omega
          generalize t.getD j (-1) = Y at cj bj hstep hlast
          by_cases cy : Y < 0
          · have cyd : decide (0 ≤ Y) = false := decide_eq_false (by omega)
            rw [if_neg (by omega)] at hstep
            have hn := hnew hstep
            clear hlast hfm hcj hbj hstep hnew hX hz ej hij
            go_upto_region 6 with fail
            go_quiet (fail)
            have k2 := (Keep.refl (fun _ => False) wr).drewN nq
            have ci2 := k2.cell ci
            generalize wr.drewN nq = w2 at k2 ci2 ⊢
            obtain ⟨a2, c2, w3, happ, R3, hE⟩ := hn w2 k2
            have hE' : Hid ((refR t (i + 1)).length = (refR t i).length + 1) := hE
            clear hn hE R1 ci k2
            go_wp2_with (at_builtin; refine wpList_append_run rfl (.tmp 50) (.tmp 57) 27 rfl (by rfl) (by rfl) happ ?_)
            go_roundw
            case rel => exact ⟨i + 1, a2, c2, hlt', by rw [show (refR t (i + 1)).length = _ from hE'], by go_num, R3⟩
            case measure => have : i < t.length := hlt'; simp [intOf]; omega
          · have cj0 : 0 ≤ Y := by omega
            have cyd : decide (0 ≤ Y) = true := decide_eq_true cj0
            have dy := wrapI (x := Y + 1) (by omega) (by omega)
            by_cases ce : Y + 1 = X
            · have ceb : (Y + 1 == X) = true := by simp [ce]
              rw [if_pos ⟨by omega, cj0, ce⟩] at hstep
              obtain ⟨A, x, eA, xf, xp⟩ := hlast (by omega) cj0
              rw [eA, grow_snoc] at hstep
              have hxo := hfm.1 x (by rw [eA]; simp)
              have hx1 := hxo.1
              have hx2 := hxo.2.1
              unfold Rn.fin at xf
              rw [eA] at R1 hln ⊢
              have hAl : (A ++ [x]).length = A.length + 1 := by simp
              rw [hAl] at hln ⊢
              have hEl : Hid ((refR t (i + 1)).length = A.length + 1) := by show (refR t (i + 1)).length = _; rw [hstep]; simp
              have hst' : Hid (refR t (i + 1) = A ++ [⟨x.lba, x.len + 1, x.phys⟩]) := hstep
              have dxl := wrapI (x := x.len + 1) (by omega) (by omega)
              have dA := wrapI (x := ((A.length + 1 : Nat) : Int) - 1) (by omega) (by omega)
              have dA2 : ((A.length + 1 : Nat) : Int) - 1 = (A.length : Int) := by omega
              rw [dA2] at dA
              have hrc := R1.rs.1
              rw [hAl] at hrc
              clear hcj hbj hstep hnew hX hz ej hij ce
              clear hlast hfm eA hxo hx1 hx2 xf xp dA2 hAl
              go_upto_region 6 with fail
              go_quiet (fail)
              have k2 := (Keep.refl (fun _ => False) wr).drewN nq
              have R2 := R1.more k2
              generalize wr.drewN nq = w2 at k2 R2 ⊢
              obtain ⟨g2, rfl, f0, f1, f2⟩ := R2.rs.at (i := A.length) (x := x) (by simp)
              have hfz := R2.own.frozenAt (A.length * 3 + 1)
              have R3 := R2.setLen (x.len + 1)
              rw [← (show refR t (i + 1) = _ from hst')] at R3
              clear R1 R2 ci k2
              go_wp2_with fail
              go_roundw
              case rel => exact ⟨i + 1, _, c', hlt', by rw [show (refR t (i + 1)).length = _ from hEl], by go_num, R3⟩
              case measure => have : i < t.length := hlt'; simp [intOf]; omega
            · have ceb : (Y + 1 == X) = false := by simp [ce]
              rw [if_neg (fun h => ce h.2.2)] at hstep
              have hn := hnew hstep
              clear hlast hfm hcj hbj hstep hnew hX hz ej hij ce
              go_upto_region 6 with fail
              go_quiet (fail)
              have k2 := (Keep.refl (fun _ => False) wr).drewN nq
              have ci2 := k2.cell ci
              generalize wr.drewN nq = w2 at k2 ci2 ⊢
              obtain ⟨a2, c2, w3, happ, R3, hE⟩ := hn w2 k2
              have hE' : Hid ((refR t (i + 1)).length = (refR t i).length + 1) := hE
              clear hn hE R1 ci k2
              go_wp2_with (at_builtin; refine wpList_append_run rfl (.tmp 50) (.tmp 57) 27 rfl (by rfl) (by rfl) happ ?_)
              go_roundw
              case rel => exact ⟨i + 1, a2, c2, hlt', by rw [show (refR t (i + 1)).length = _ from hE'], by go_num, R3⟩
              case measure => have : i < t.length := hlt'; simp [intOf]; omega
    · have di : ¬ (i : Int) < (t.length : Int) := by omega
      have ei : i = t.length := by omega
      rw [ei] at R1 ⊢
      clear hlt ei h
      go_wp2_with fail
      go_ret
      exact ⟨_, _, rfl, R1⟩
end Tg
end Go.Proofs.Ytkddonmddgfpnab
namespace Go.Proofs.Ytkddonmddgfpnab
open Go.ChangeShapes Go.WideShapes Go.ChangeAt Go.RowKit
namespace Tg

/-- The last piece's length is written over. -/
theorem Rq.setLen {w0 w : World} {g cap : Nat} {a : List Rn} {x : Rn} (h : Rq w0 w (some ⟨g, 0, none⟩) cap (a ++ [x])) (v : Int) :
    Rq w0 (w.setCell ⟨g, a.length * 3 + 1, none⟩ (.int .i64 v)) (some ⟨g, 0, none⟩) cap (a ++ [⟨x.lba, v, x.phys⟩]) := by
  have hl : (a ++ [x]).length = (a ++ [(⟨x.lba, v, x.phys⟩ : Rn)]).length := by simp
  obtain ⟨h1, h2⟩ := h.own.stored (a.length * 3 + 1) (.int .i64 v)
  rw [set_cells] at h1
  refine ⟨by rw [← hl]; exact h1, h.keep.next (keep_grown h2) (fun y hy e => ?_)⟩
  injection e with e
  have := (h.block rfl).1
  omega

theorem refP_len (t : List Int) (lba : Nat) : ∀ i, (refP t lba i).length ≤ i
  | 0 => by simp [refP]
  | i + 1 => by
    have := refP_len t lba i
    rw [refP]
    split
    · rw [grow_len]; omega
    · simp; omega
set_option maxRecDepth 100000 in
/-- An empty row of pieces, made. -/
theorem rq_made (w : World) : (Instr.makeSlice 36 (.int .i64 0) (.int .i64 0)).run Try.prog w = .ok (.slice (some ⟨w.heap.size, 0, none⟩) 0 0) (w.alloc (.cells #[] 42)) ∧ Rq w (w.alloc (.cells #[] 42)) (some ⟨w.heap.size, 0, none⟩) 0 [] := by
  obtain ⟨i, hi, hz0, hz1, hz2⟩ := info_parts info45
  have := run_make (P := Try.prog) w 36 42 i _ Try.underlying36 hi hz0 .i64 .i64 0 0 (by omega) (by omega) (by rw [hz2]; omega) (by omega)
  have e : ∀ z : Array Value, madeCells z 0 = #[] := fun z => by simp [madeCells]
  rw [show Int.toNat 0 = 0 from rfl, Nat.zero_mul, e] at this
  exact ⟨this, World.ownsRow_lit (e := 42) (size := 3) (base := w.heap.size) w #[] 0 (Nat.le_refl _) (by unfold maxLen; omega) rfl, (Keep.refl _ _).alloc _⟩

theorem putN_tab {t : List Int} (h : Tab t) {lba n : Nat} (hr : lba + n ≤ t.length) (hn : n ≤ 512) {phys : Int} (hp : phys ≤ 1048576) : Tab (putN t lba phys n) := fun i => by
  have := h i
  rw [putN_get t lba phys n hr i]
  split
  · split <;> omega
  · exact this

/-- What Set leaves: the entries put, or as they were. -/
def Sat (w : World) (a : Option Addr) (c : Nat) (t u : List Int) (most : Int) (e : Ending) (w' : World) : Prop :=
  (((refR u u.length).length : Int) ≤ most ∧ ∃ a' c', e = .returned (.tuple #[.slice a' t.length c', .int .i64 0]) ∧ Ri w w' a' c' u) ∨ (most < ((refR u u.length).length : Int) ∧ e = .returned (.tuple #[.slice a t.length c, .int .i64 5]) ∧ Keep (fun _ => False) w w')

theorem Rw.poke {w : World} {G N : Nat} (h : Rw w G N []) (j : Nat) (v : Value) : Rw (w.setCell ⟨G, j, none⟩ v) G N [] := by
  refine ⟨fun j u hu => by simp at hu, fun i hi => ?_⟩
  obtain ⟨h1, h2⟩ := h.free i hi
  refine ⟨?_, by rw [World.frozen?_setCell]; exact h2⟩
  obtain ⟨x, hx⟩ := Option.isSome_iff_exists.1 h1
  by_cases e : i = j
  · subst e; rw [World.cell?_setCell_same w _ _ hx]; rfl
  · rw [World.cell?_setCell_other (h := fun x => e (congrArg Addr.off x).symm)]; exact h1

theorem of_nil (C : Nat) : Of (List.replicate C (-1)) [] := by
  refine ⟨Form.nil, fun s => ?_⟩
  unfold entry
  rw [if_neg]
  · rfl
  · rintro ⟨h1, h2, h3⟩
    simp at h2
    have e : (List.replicate C (-1 : Int)).getD s.toNat (-1) = -1 := by
      simp only [List.getD_eq_getElem?_getD, List.getElem?_replicate]
      split <;> rfl
    omega
theorem tab_nil (C : Nat) : Tab (List.replicate C (-1)) := fun i => by
  have e : (List.replicate C (-1 : Int)).getD i (-1) = -1 := by
    simp only [List.getD_eq_getElem?_getD, List.getElem?_replicate]
    split <;> rfl
  omega
end Tg
end Go.Proofs.Ytkddonmddgfpnab
