/-
  What the program's calls answer (as they should), the richest window, rows of pieces held against each other.
-/
import Derived.Test.YtojkiambkgkecaaWg
namespace Go.Proofs.Ytojkiambkgkecaa
open Go.ChangeShapes Go.WideShapes Go.ChangeAt Go.RowKit
namespace Tg
set_option maxRecDepth 100000 in
set_option maxHeartbeats 1000000 in
theorem piecesZ {w : World} {a1 a2 : Option Addr} {c1 c2 : Nat} {m1 m2 : List Rn} (h1 : Rz w a1 c1 m1) (h2 : Rz w a2 c2 m2) (hl1 : m1.length ≤ 9223372036854775807) :
    Calls Try.prog 24 #[.slice a1 m1.length c1, .slice a2 m2.length c2] w fun e w' => e = .returned (.bool (sameL m1 m2)) ∧ Keep (fun _ => False) w w' := by
  have K0 := Keep.refl (fun _ => False) w
  have hc1 := h1.1
  have hc2 := h2.1
  by_cases hl : m1.length = m2.length
  · have hb : ((m1.length : Int) != (m2.length : Int)) = false := by simp [hl]
    have hl' : Hid (m1.length = m2.length) := hl
    have hl1' : (m1.length : Int) ≤ 9223372036854775807 := by omega
    have hm2 : (m2.length : Int) = (m1.length : Int) := by omega
    have hm2' : Hid ((m2.length : Int) = (m1.length : Int)) := hm2
    clear hl hl1 hm2
    go_enter Try.func24, Try.ntmps24
    go_wp2_with fail
    go_loopw [5] (fun v wx => ∃ i : Nat, i ≤ m1.length ∧ v = .int .i64 (i : Int) ∧ Hid (m1.take i = m2.take i) ∧ Keep (fun _ => False) w wx) (fun v _ => m1.length - (intOf v).toNat)
    case atStart => exact ⟨0, by omega, rfl, by show m1.take 0 = m2.take 0; simp, K0⟩
    case round =>
      obtain ⟨i, hi, rfl, hI, k1⟩ := hrel
      by_cases hlt : i < m1.length
      · have hlt2 : i < m2.length := by have := show m1.length = m2.length from hl'; omega
        obtain ⟨x, hx⟩ := get_rn hlt
        obtain ⟨y, hy⟩ := get_rn hlt2
        obtain ⟨g1, o1, rfl, e0, e1, e2⟩ := (h1.more k1).at hx
        obtain ⟨g2, o2, rfl, f0, f1, f2⟩ := (h2.more k1).at hy
        have di : (i : Int) < (m1.length : Int) := by omega
        have di2 : (i : Int) < (m2.length : Int) := by omega
        have dw := wrapI (x := (i : Int) + 1) (by omega) (by omega)
        have hlt' : Hid (i < m1.length) := hlt
        have t1 : Hid (m1.take (i + 1) = m1.take i ++ [x]) := take_next hx
        have t2 : Hid (m2.take (i + 1) = m2.take i ++ [y]) := take_next hy
        by_cases e : x = y
        · subst e
          have hI2 : Hid (m1.take (i + 1) = m2.take (i + 1)) := by
            show m1.take (i + 1) = m2.take (i + 1)
            rw [show m1.take (i + 1) = _ from t1, show m2.take (i + 1) = _ from t2, show m1.take i = m2.take i from hI]
          clear hx hy hlt hlt2 hI t1 t2
          go_wp2_with fail
          go_quiet (fail)
          go_wp2_with fail
          go_roundw
          case rel => exact ⟨i + 1, hlt', by go_num, hI2, k1.drewN _⟩
          case measure => have : i < m1.length := hlt'; simp [intOf]; omega
        · have hne : Hid (sameL m1 m2 = false) := by
            show sameL m1 m2 = false
            rw [Bool.eq_false_iff]
            intro hs
            have := sameL_iff.1 hs
            subst this
            rw [hx] at hy
            injection hy with hy
            exact e hy
          clear hx hy hlt hlt2 hI t1 t2 h1 h2
          by_cases u1 : x.lba = y.lba
          · have v1 : (x.lba == y.lba) = true := by simp [u1]
            by_cases u2 : x.len = y.len
            · have v2 : (x.len == y.len) = true := by simp [u2]
              have v3 : (x.phys == y.phys) = false := by
                simp
                intro u3
                exact e (by cases x; cases y; simp only at u1 u2 u3; subst u1; subst u2; subst u3; rfl)
              clear e u1 u2
              go_wp2_with fail
              go_quiet (fail)
              go_wp2_with fail
              go_ret
              exact ⟨by rw [show sameL m1 m2 = false from hne]; rfl, k1.drewN _⟩
            · have v2 : (x.len == y.len) = false := by simp [u2]
              clear e u1 u2
              go_wp2_with fail
              go_quiet (fail)
              go_wp2_with fail
              go_ret
              exact ⟨by rw [show sameL m1 m2 = false from hne]; rfl, k1.drewN _⟩
          · have v1 : (x.lba == y.lba) = false := by simp [u1]
            clear e u1
            go_wp2_with fail
            go_quiet (fail)
            go_wp2_with fail
            go_ret
            exact ⟨by rw [show sameL m1 m2 = false from hne]; rfl, k1.drewN _⟩
      · have di : ¬ (i : Int) < (m1.length : Int) := by omega
        have he : Hid (sameL m1 m2 = true) := sameL_iff.2 (sameL_take hl' hI (by omega))
        clear hlt h1 h2
        go_wp2_with fail
        go_ret
        exact ⟨by rw [show sameL m1 m2 = true from he]; rfl, k1⟩
  · have hb : ((m1.length : Int) != (m2.length : Int)) = true := by simp; omega
    have hne : Hid (sameL m1 m2 = false) := by
      show sameL m1 m2 = false
      rw [Bool.eq_false_iff]
      intro hs
      exact hl (by rw [sameL_iff.1 hs])
    clear hl h1 h2
    go_enter Try.func24, Try.ntmps24
    go_wp2_with fail
    go_ret
    exact ⟨by rw [show sameL m1 m2 = false from hne]; rfl, K0⟩
def I64 (x : Int) : Prop := -9223372036854775808 ≤ x ∧ x ≤ 9223372036854775807
/-- What Many and Richest ask. -/
def mOkB (l : List Rn) (C W : Int) : Bool := fit13 l && (decide (1 ≤ C ∧ C ≤ 512 ∧ 1 ≤ W ∧ W ≤ C) && endC C l)
/-- What Holes asks. -/
def hOkB (l : List Rn) (lba n : Int) : Bool := fit13 l && okR 512 lba n
/-- The first place of the greatest among the first k. -/
def bst (v : List Int) : Nat → Nat
  | 0 => 0
  | k + 1 => if v.getD (bst v k) 0 < v.getD k 0 then k else bst v k
theorem bst_lt (v : List Int) : ∀ k, 1 ≤ k → bst v k < k
  | 0, h => by omega
  | 1, _ => by unfold bst bst; split <;> omega
  | k + 2, _ => by
    have := bst_lt v (k + 1) (by omega)
    rw [bst]
    split <;> omega
theorem bst_max (v : List Int) : ∀ k j, j < k → v.getD j 0 ≤ v.getD (bst v k) 0
  | 0, _, h => by omega
  | k + 1, j, h => by
    rw [bst]
    by_cases e : j = k
    · subst e; split <;> omega
    · have := bst_max v k j (by omega)
      split <;> omega
/-- The program's Many answers as it should. -/
def ManyOk : Prop := ∀ {w : World} {a : Option Addr} {cap : Nat} {l : List Rn} (C W : Int), Rz w a cap l → Fits l → I64 C → I64 W →
  Calls Try.prog 10 #[.slice a l.length cap, .int .i64 C, .int .i64 W] w fun e w' => (if mOkB l C W = true then ∃ a' c', e = .returned (.tuple #[.slice a' (nWin C.toNat W.toNat) c', .int .i64 0]) ∧ Iz w' a' c' (manL C.toNat W.toNat l) else ∃ a' c', e = .returned (.tuple #[.slice a' 0 c', .int .i64 1])) ∧ Keep (fun _ => False) w w'
/-- The richest window's number, first sector, sectors, runs. -/
def ric (C W : Nat) (l : List Rn) : Nat := bst (manL C W l) (nWin C W)
def ricN (C W A : Nat) : Int := if (C : Int) - (A : Int) < (W : Int) then (C : Int) - (A : Int) else (W : Int)
/-- The program's Richest answers as it should. -/
def RichestOk : Prop := ∀ {w : World} {a : Option Addr} {cap : Nat} {l : List Rn} (C W : Int), Rz w a cap l → Fits l → I64 C → I64 W →
  Calls Try.prog 11 #[.slice a l.length cap, .int .i64 C, .int .i64 W] w fun e w' => (if mOkB l C W = true then e = .returned (.tuple #[.int .i64 ((ric C.toNat W.toNat l * W.toNat : Nat) : Int), .int .i64 (ricN C.toNat W.toNat (ric C.toNat W.toNat l * W.toNat)), .int .i64 ((manL C.toNat W.toNat l).getD (ric C.toNat W.toNat l) 0), .int .i64 0]) else e = .returned (.tuple #[.int .i64 0, .int .i64 0, .int .i64 0, .int .i64 1])) ∧ Keep (fun _ => False) w w'
/-- The program's Holes answers as it should. -/
def HolesOk : Prop := ∀ {w : World} {a : Option Addr} {cap : Nat} {l : List Rn} (lba n : Int), Rz w a cap l → Fits l → I64 lba → I64 n →
  Calls Try.prog 8 #[.slice a l.length cap, .int .i64 lba, .int .i64 n] w fun e w' => (if hOkB l lba n = true then ∃ a' c', e = .returned (.tuple #[.slice a' (holL l lba n).length c', .int .i64 0]) ∧ Rz w' a' c' (holL l lba n) else ∃ a' c', e = .returned (.tuple #[.slice a' 0 c', .int .i64 1])) ∧ Keep (fun _ => False) w w'
theorem ManyOk.post (H : ManyOk) {w : World} {a : Option Addr} {cap : Nat} {l : List Rn} {C W : Int} (hR : Rz w a cap l) (hf : Fits l) (hC : I64 C) (hW : I64 W) :
    Calls Try.prog 10 #[.slice a l.length cap, .int .i64 C, .int .i64 W] w fun e w' => ∃ (a' : Option Addr) (k c' : Nat) (E : Int), e = .returned (.tuple #[.slice a' k c', .int .i64 E]) ∧ Hid ((mOkB l C W = true → E = 0 ∧ k = nWin C.toNat W.toNat ∧ Iz w' a' c' (manL C.toNat W.toNat l)) ∧ (mOkB l C W = false → E = 1 ∧ k = 0)) ∧ Keep (fun _ => False) w w' :=
  (H C W hR hf hC hW).mono (by
    rintro e w' ⟨h1, k⟩
    by_cases hc : mOkB l C W = true
    · rw [if_pos hc] at h1
      obtain ⟨a', c', rfl, h2⟩ := h1
      exact ⟨a', _, c', 0, rfl, ⟨fun _ => ⟨rfl, rfl, h2⟩, fun e => by rw [hc] at e; cases e⟩, k⟩
    · rw [if_neg hc] at h1
      obtain ⟨a', c', rfl⟩ := h1
      exact ⟨a', _, c', 1, rfl, ⟨fun e => absurd e hc, fun _ => ⟨rfl, rfl⟩⟩, k⟩)
theorem RichestOk.post (H : RichestOk) {w : World} {a : Option Addr} {cap : Nat} {l : List Rn} {C W : Int} (hR : Rz w a cap l) (hf : Fits l) (hC : I64 C) (hW : I64 W) :
    Calls Try.prog 11 #[.slice a l.length cap, .int .i64 C, .int .i64 W] w fun e w' => ∃ (x y r E : Int), e = .returned (.tuple #[.int .i64 x, .int .i64 y, .int .i64 r, .int .i64 E]) ∧ Hid ((mOkB l C W = true → E = 0 ∧ x = ((ric C.toNat W.toNat l * W.toNat : Nat) : Int) ∧ y = ricN C.toNat W.toNat (ric C.toNat W.toNat l * W.toNat) ∧ r = (manL C.toNat W.toNat l).getD (ric C.toNat W.toNat l) 0) ∧ (mOkB l C W = false → E = 1 ∧ x = 0 ∧ y = 0 ∧ r = 0)) ∧ Keep (fun _ => False) w w' :=
  (H C W hR hf hC hW).mono (by
    rintro e w' ⟨h1, k⟩
    by_cases hc : mOkB l C W = true
    · rw [if_pos hc] at h1
      subst h1
      exact ⟨_, _, _, 0, rfl, ⟨fun _ => ⟨rfl, rfl, rfl, rfl⟩, fun e => by rw [hc] at e; cases e⟩, k⟩
    · rw [if_neg hc] at h1
      subst h1
      exact ⟨_, _, _, 1, rfl, ⟨fun e => absurd e hc, fun _ => ⟨rfl, rfl, rfl, rfl⟩⟩, k⟩)
theorem HolesOk.post (H : HolesOk) {w : World} {a : Option Addr} {cap : Nat} {l : List Rn} {lba n : Int} (hR : Rz w a cap l) (hf : Fits l) (hC : I64 lba) (hW : I64 n) :
    Calls Try.prog 8 #[.slice a l.length cap, .int .i64 lba, .int .i64 n] w fun e w' => ∃ (a' : Option Addr) (k c' : Nat) (E : Int), e = .returned (.tuple #[.slice a' k c', .int .i64 E]) ∧ Hid ((hOkB l lba n = true → E = 0 ∧ k = (holL l lba n).length ∧ Rz w' a' c' (holL l lba n)) ∧ (hOkB l lba n = false → E = 1 ∧ k = 0)) ∧ Keep (fun _ => False) w w' :=
  (H lba n hR hf hC hW).mono (by
    rintro e w' ⟨h1, k⟩
    by_cases hc : hOkB l lba n = true
    · rw [if_pos hc] at h1
      obtain ⟨a', c', rfl, h2⟩ := h1
      exact ⟨a', _, c', 0, rfl, ⟨fun _ => ⟨rfl, rfl, h2⟩, fun e => by rw [hc] at e; cases e⟩, k⟩
    · rw [if_neg hc] at h1
      obtain ⟨a', c', rfl⟩ := h1
      exact ⟨a', _, c', 1, rfl, ⟨fun e => absurd e hc, fun _ => ⟨rfl, rfl⟩⟩, k⟩)
end Tg
end Go.Proofs.Ytojkiambkgkecaa
