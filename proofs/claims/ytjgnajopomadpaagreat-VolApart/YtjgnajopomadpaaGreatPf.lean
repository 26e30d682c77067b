/-
  Rows of entries; which volumes a disk's bytes tell (mathematics).
-/
import Derived.Test.YtjgnajopomadpaaGreatWr
namespace Go.Proofs.YtjgnajopomadpaaGreat
open Go.ChangeShapes Go.WideShapes Go.ChangeAt Go.RowKit
namespace Tg
open Qm
def eCs (l : List En) : List Value := l.flatMap (fun x => (enA x).toList)
theorem eCs_at : ∀ {l : List En} {k : Nat} {x : En}, l[k]? = some x → ∀ j, j < 4 → (eCs l)[k * 4 + j]? = (enA x).toList[j]?
  | [], _, _, h, _, _ => by simp at h
  | y :: l, 0, x, h, j, hj => by
    have h : y = x := by simpa using h
    subst h
    show ((enA y).toList ++ eCs l)[0 * 4 + j]? = _
    rw [List.getElem?_append_left (by simp [enA]; omega), Nat.zero_mul, Nat.zero_add]
  | y :: l, k + 1, x, h, j, hj => by
    show ((enA y).toList ++ eCs l)[(k + 1) * 4 + j]? = _
    rw [List.getElem?_append_right (by simp [enA]; omega), show (k + 1) * 4 + j - (enA y).toList.length = k * 4 + j by simp [enA]; omega]
    exact eCs_at (by simpa using h) j hj
/-- Entries in a row made since w0. -/
def Ev (w0 w : World) (a : Option Addr) (cap : Nat) (l : List En) : Prop := Gw 91 4 w0 w a l.length cap (eCs l)
theorem Ev.more {w0 w w' : World} {a : Option Addr} {cap : Nat} {l : List En} (h : Ev w0 w a cap l) (k : Keep (fun _ => False) w w') : Ev w0 w' a cap l := Gw.more h k
theorem Ev.at {w0 w : World} {a : Option Addr} {cap : Nat} {l : List En} (h : Ev w0 w a cap l) {k : Nat} {x : En} (hx : l[k]? = some x) :
    ∃ g o, a = some ⟨g, o, none⟩ ∧ w.cell? ⟨g, o + k * 4, none⟩ = some (.string (strOfNums x.nm)) ∧ w.cell? ⟨g, o + k * 4 + 1, none⟩ = some (.int .i64 x.f) ∧ w.cell? ⟨g, o + k * 4 + 2, none⟩ = some (.int .i64 x.n) ∧ w.cell? ⟨g, o + k * 4 + 3, none⟩ = some (.int .i64 x.i) := by
  have hk := eCs_at hx
  rcases Gw.rd h with h0 | ⟨g, o, e, hc⟩
  · have := hk 0 (by omega)
    rw [h0] at this
    simp [enA] at this
  · exact ⟨g, o, e, hc _ _ (hk 0 (by omega)), hc _ _ (hk 1 (by omega)), hc _ _ (hk 2 (by omega)), hc _ _ (hk 3 (by omega))⟩
theorem info50 : (Tryz.prog.info? 91).map (fun i => (i.zero, i.size, i.bytes)) = some (some (.agg #[.string ⟨#[]⟩, .int .i64 0, .int .i64 0, .int .i64 0]), 4, 40) := by kernel_rfl
theorem Ev.app {w0 w : World} {a : Option Addr} {cap : Nat} {l : List En} (h : Ev w0 w a cap l) (hl : l.length ≤ 1000) (x : En) :
    ∃ a' cap' w', (Builtin.append_ #[88, 88] 88 #[.slice a l.length cap, .slice (some ⟨w.heap.size, 0, none⟩) 1 1]).run Tryz.prog (w.alloc (.cells (enA x) 91)) = .ok (.slice a' (l.length + 1) cap') w' ∧ Ev w0 w' a' cap' (l ++ [x]) := by
  obtain ⟨a', cap', w', h1, h2⟩ := Gw.app1 (t := 88) Tryz.underlying88 info50 rfl (by decide) (by decide) h (by omega) (enA x).toList rfl (by intro u hu; simp [enA] at hu; rcases hu with rfl | rfl | rfl | rfl <;> rfl)
  refine ⟨a', cap', w', h1, ?_⟩
  show Gw 91 4 w0 w' a' (l ++ [x]).length cap' (eCs (l ++ [x]))
  rw [List.length_append, show eCs (l ++ [x]) = eCs l ++ (enA x).toList by simp [eCs]]
  exact h2
theorem make32 (w : World) : (Instr.makeSlice 88 (.int .i64 0) (.int .i64 0)).run Tryz.prog w = .ok (.slice (some ⟨w.heap.size, 0, none⟩) 0 0) (w.alloc (.cells (madeCells (enA En.z) (0 * 4)) 91)) ∧ Ev w (w.alloc (.cells (madeCells (enA En.z) (0 * 4)) 91)) (some ⟨w.heap.size, 0, none⟩) 0 [] := by
  constructor
  · obtain ⟨i, hi, hz0, hz1, hz2⟩ := info_parts info50
    have := run_make (P := Tryz.prog) w 88 91 i _ Tryz.underlying88 hi hz0 .i64 .i64 0 0 (by omega) (by omega) (by rw [hz2]; omega) (by omega)
    rw [hz1] at this
    exact this
  · refine ⟨?_, (Keep.refl _ _).alloc _⟩
    have e : madeCells (enA En.z) (0 * 4) = #[] := by simp [madeCells]
    rw [e]
    exact World.ownsRow_lit (e := 91) (size := 4) (base := w.heap.size) w #[] 0 (Nat.le_refl _) (by unfold maxLen; omega) rfl
/-- Have two volumes neither name nor sector together? -/
def apart (a e : En) : Bool := decide (¬ strOfNums a.nm = strOfNums e.nm) && (decide (a.f + a.n ≤ e.f) || decide (e.f + e.n ≤ a.f))
def vstep (V : Option En) (acc : List En) : List En := match V with
  | none => acc
  | some e => if acc.all (fun a => apart a e) then acc ++ [e] else acc
/-- The volumes that the first sectors tell. -/
def volK (N : Int) (l : List Int) : Nat → List En
  | 0 => []
  | k + 1 => vstep (entL N l k) (volK N l k)
def volL (N : Int) (l : List Int) : List En := volK N l 8
/-- What is so of an entry by itself. -/
structure En.Ok (N : Int) (e : En) : Prop where
  f : 8 ≤ e.f
  n : 1 ≤ e.n
  fn : e.f + e.n ≤ N
  i : 0 ≤ e.i ∧ e.i ≤ 7
  nm : B8 e.nm ∧ 1 ≤ e.nm.length ∧ e.nm.length ≤ 16
theorem entL_ok {N : Nat} {l : List Int} (hb : B8 l) {i : Nat} (hl : l.length = N * 32) (hi : i < N) (h7 : i ≤ 7) {e : En} (h : entL N l i = some e) : e.Ok N := by
  unfold entL at h
  split at h
  case isFalse => cases h
  case isTrue hk =>
    injection h with h
    subst h
    have hbl : (rdL l i 1).length = 32 := rdL_len (by omega)
    have hb8 : B8 (rdL l i 1) := rdL_b8 hb
    generalize rdL l i 1 = b at *
    unfold entOk at hk
    simp only [Bool.and_eq_true, decide_eq_true_eq] at hk
    obtain ⟨h1, h2, h3, h4, h5, h6⟩ := hk
    refine ⟨h3, h4, h5, ⟨by show 0 ≤ (i : Int); omega, by show (i : Int) ≤ 7; omega⟩, fun x hx => hb8 x (List.mem_of_mem_take (List.mem_of_mem_drop hx)), ?_, ?_⟩
    · show 1 ≤ ((b.take (2 + (b.getD 1 0).toNat)).drop 2).length; rw [List.length_drop, List.length_take]; omega
    · show ((b.take (2 + (b.getD 1 0).toNat)).drop 2).length ≤ 16; rw [List.length_drop, List.length_take]; omega
theorem volK_ok {N : Nat} {l : List Int} (hb : B8 l) (hl : l.length = N * 32) (hN : 8 ≤ N) : ∀ k, k ≤ 8 → (volK N l k).length ≤ k ∧ ∀ e ∈ volK N l k, e.Ok N
  | 0, _ => ⟨Nat.le_refl _, fun e he => by cases he⟩
  | k + 1, hk => by
    obtain ⟨h1, h2⟩ := volK_ok hb hl hN k (by omega)
    show (vstep _ _).length ≤ _ ∧ ∀ e ∈ vstep _ _, _
    unfold vstep
    split
    · exact ⟨by omega, h2⟩
    · next e he =>
      split
      · refine ⟨by rw [List.length_append]; simp; omega, fun x hx => ?_⟩
        rcases List.mem_append.1 hx with h | h
        · exact h2 x h
        · have : x = e := by simpa using h
          subst this
          exact entL_ok hb hl (by omega) (by omega) he
      · exact ⟨by omega, h2⟩
end Tg
end Go.Proofs.YtjgnajopomadpaaGreat
