/-
  Rows of numbers, wherever they begin; ints, walked.
-/
import Derived.Test.YtkddonmddgfpnabBx
namespace Go.Proofs.Ytkddonmddgfpnab
open Go.ChangeShapes Go.WideShapes Go.ChangeAt Go.RowKit
namespace Tg
/-- A row of numbers, wherever it begins. -/
def Iz (w : World) (a : Option Addr) (cap : Nat) (xs : List Int) : Prop :=
  xs.length ≤ cap ∧ cap ≤ 9223372036854775807 ∧ (xs = [] ∨ ∃ g o, a = some ⟨g, o, none⟩ ∧ ∀ i v, xs[i]? = some v → w.cell? ⟨g, o + i, none⟩ = some (.int .i64 v))
theorem Iz.keep {S : Nat → Prop} {w w' : World} {a : Option Addr} {cap : Nat} {l : List Int} (h : Iz w a cap l) (k : Keep S w w') (hs : ∀ g o, a = some ⟨g, o, none⟩ → l ≠ [] → ¬ S g) : Iz w' a cap l := by
  obtain ⟨h1, h2, h3⟩ := h
  by_cases hl : l = []
  · exact ⟨h1, h2, Or.inl hl⟩
  refine ⟨h1, h2, h3.imp id ?_⟩
  rintro ⟨g, o, rfl, hc⟩
  refine ⟨g, o, rfl, fun i p hp => ?_⟩
  have c0 := hc i p hp
  have hb := World.block_lt_of_cell? w _ c0
  rw [← c0]
  exact World.cell?_of_block (w := w) (a := ⟨g, o + i, none⟩) (k.block g hb (hs g o rfl hl))
theorem Iz.more {w w' : World} {a : Option Addr} {cap : Nat} {l : List Int} (h : Iz w a cap l) (k : Keep (fun _ => False) w w') : Iz w' a cap l := h.keep k (fun _ _ _ _ e => e)
theorem Iz.at {w : World} {a : Option Addr} {cap : Nat} {l : List Int} (h : Iz w a cap l) {i : Nat} {v : Int} (hv : l[i]? = some v) : ∃ g o, a = some ⟨g, o, none⟩ ∧ w.cell? ⟨g, o + i, none⟩ = some (.int .i64 v) := by
  rcases h.2.2 with rfl | ⟨g, o, rfl, hc⟩
  · simp at hv
  · exact ⟨g, o, rfl, hc i v hv⟩
theorem Is.iz {w : World} {a : Option Addr} {cap : Nat} {l : List Int} (h : Is w a cap l) : Iz w a cap l := by
  obtain ⟨h1, h2, h3⟩ := h
  refine ⟨h1, h2, h3.imp id ?_⟩
  rintro ⟨g, rfl, hc⟩
  refine ⟨g, 0, rfl, fun i v hv => ?_⟩
  rw [Nat.zero_add]
  exact hc i _ (by simp [ic, hv])
theorem get_int {l : List Int} {i : Nat} (h : i < l.length) : ∃ v, l[i]? = some v := ⟨_, List.getElem?_eq_getElem h⟩
set_option maxRecDepth 100000 in
set_option maxHeartbeats 1000000 in
theorem ints_any {w : World} {a1 a2 : Option Addr} {c1 c2 : Nat} {m1 m2 : List Int} (h1 : Iz w a1 c1 m1) (h2 : Iz w a2 c2 m2) (hl : m1.length ≤ 100000) :
    Calls Try.prog 20 #[.slice a1 m1.length c1, .slice a2 m2.length c2] w fun e w' => e = .returned (.bool (decide (m1 = m2))) ∧ Keep (fun _ => False) w w' := by
  have K0 := Keep.refl (fun _ => False) w
  have e1 := h1.1
  have e2 := h1.2.1
  have e3 := h2.1
  have e4 := h2.2.1
  obtain ⟨n1, hn1⟩ : ∃ n, n = m1.length := ⟨_, rfl⟩
  obtain ⟨n2, hn2⟩ : ∃ n, n = m2.length := ⟨_, rfl⟩
  have hn1' : Hid (n1 = m1.length) := hn1
  have hn2' : Hid (n2 = m2.length) := hn2
  rw [← hn1] at e1 hl ⊢
  rw [← hn2] at e3 ⊢
  by_cases hne : n1 = n2
  · have g0 : ((n1 : Int) != (n2 : Int)) = false := by rw [bne_eq_false_iff_eq]; omega
    clear hn1 hn2
    go_enter Try.func20, Try.ntmps20
    go_wp2_with fail
    go_loopw [5] (fun v wx => ∃ i : Nat, i ≤ n1 ∧ v = .int .i64 (i : Int) ∧ Hid (m1.take i = m2.take i) ∧ Keep (fun _ => False) w wx) (fun v _ => n1 - (intOf v).toNat)
    case atStart => exact ⟨0, by omega, rfl, rfl, K0⟩
    case round =>
      obtain ⟨i, hi, rfl, hs, KK⟩ := hrel
      by_cases hlt : i < n1
      · obtain ⟨x, hx⟩ := get_int (l := m1) (i := i) (by rw [← show n1 = _ from hn1']; exact hlt)
        obtain ⟨y, hy⟩ := get_int (l := m2) (i := i) (by rw [← show n2 = _ from hn2']; omega)
        obtain ⟨g1, o1, rfl, cx⟩ := (h1.more KK).at hx
        obtain ⟨g2, o2, rfl, cy⟩ := (h2.more KK).at hy
        have di : (i : Int) < (n1 : Int) := by omega
        have dj : (i : Int) < (n2 : Int) := by omega
        have hin2 : i < n2 := by omega
        have dw := wrapI (x := (i : Int) + 1) (by omega) (by omega)
        have hlt' : Hid (i < n1) := hlt
        by_cases he : x = y
        · have gx : (x != y) = false := by rw [bne_eq_false_iff_eq]; exact he
          have hs2 : Hid (m1.take (i + 1) = m2.take (i + 1)) := by show _ = _; rw [List.take_add_one, List.take_add_one, hx, hy, show m1.take i = _ from hs, he]
          have hne' : Hid (n1 = n2) := hne
          clear hs hx hy he hlt hne
          go_wp2_with fail
          go_quiet (fail)
          go_wp2_with fail
          go_roundw
          case rel => exact ⟨i + 1, hlt', by go_num, hs2, KK.drewN _⟩
          case measure => have : i < n1 := hlt'; simp [intOf]; omega
        · have gx : (x != y) = true := by rw [bne_iff_ne]; exact he
          have hno : Hid (decide (m1 = m2) = false) := decide_eq_false (fun e => he (by rw [e, hy] at hx; injection hx with hx; exact hx.symm))
          clear hs hx hy he hlt hne
          go_wp2_with fail
          go_quiet (fail)
          go_wp2_with fail
          go_ret
          exact ⟨by rw [show decide (m1 = m2) = false from hno]; rfl, KK.drewN _⟩
      · have hyes : Hid (decide (m1 = m2) = true) := decide_eq_true (by
          have := show m1.take i = m2.take i from hs
          rwa [List.take_of_length_le (by rw [← show n1 = _ from hn1']; omega), List.take_of_length_le (by rw [← show n2 = _ from hn2']; omega)] at this)
        have di : ¬ (i : Int) < (n1 : Int) := by omega
        clear hlt hs hne
        go_wp2_with fail
        go_ret
        exact ⟨by rw [show decide (m1 = m2) = true from hyes]; rfl, KK⟩
  · have g0 : ((n1 : Int) != (n2 : Int)) = true := by rw [bne_iff_ne]; omega
    rw [decide_eq_false (fun e => hne (by rw [hn1, hn2, e]))]
    clear hn1 hn2 hne
    go_enter Try.func20, Try.ntmps20
    go_wp2_with fail
    go_ret
    exact ⟨rfl, K0⟩
/-- The program's Valid answers as it should. -/
def ValidOk : Prop := ∀ {w : World} {a : Option Addr} {cap : Nat} {l : List Rn} (n pages : Int), Rz w a cap l → Fits l → (-9223372036854775808 ≤ n ∧ n ≤ 9223372036854775807) → (-9223372036854775808 ≤ pages ∧ pages ≤ 9223372036854775807) →
  Calls Try.prog 9 #[.slice a l.length cap, .int .i64 n, .int .i64 pages] w fun e w' => (if vOk l n pages = true then ∃ a' c', e = .returned (.tuple #[.slice a' n.toNat c', .int .i64 0]) ∧ Iz w' a' c' (valL pages l n.toNat) else ∃ a' c', e = .returned (.tuple #[.slice a' 0 c', .int .i64 1])) ∧ Keep (fun _ => False) w w'
/-- The program's Split answers as it should. -/
def SplitOk : Prop := ∀ {w : World} {a : Option Addr} {cap : Nat} {l : List Rn} (pages : Int), Rz w a cap l → Fits l → (-9223372036854775808 ≤ pages ∧ pages ≤ 9223372036854775807) →
  Calls Try.prog 19 #[.slice a l.length cap, .int .i64 pages] w fun e w' => (if sOk l pages = true then ∃ a' c', e = .returned (.tuple #[.slice a' (splL pages l).length c', .int .i64 0]) ∧ Rz w' a' c' (splL pages l) else ∃ a' c', e = .returned (.tuple #[.slice a' 0 c', .int .i64 1])) ∧ Keep (fun _ => False) w w'
/-- The program's Moves answers as it should. -/
def MovesOk : Prop := ∀ {w : World} {a : Option Addr} {cap : Nat} {l : List Rn} (b pages : Int), Rz w a cap l → Fits l → (-9223372036854775808 ≤ b ∧ b ≤ 9223372036854775807) → (-9223372036854775808 ≤ pages ∧ pages ≤ 9223372036854775807) →
  Calls Try.prog 11 #[.slice a l.length cap, .int .i64 b, .int .i64 pages] w fun e w' => (if sOk l pages = true ∧ 0 ≤ b ∧ b < 64 then ∃ a' c', e = .returned (.tuple #[.slice a' (movL pages b l).length c', .int .i64 0]) ∧ Rz w' a' c' (movL pages b l) ∧ (∀ g o, a' = some ⟨g, o, none⟩ → movL pages b l ≠ [] → w.heap.size ≤ g) else ∃ a' c', e = .returned (.tuple #[.slice a' 0 c', .int .i64 1])) ∧ Keep (fun _ => False) w w'
end Tg
end Go.Proofs.Ytkddonmddgfpnab
