/-
  The document's own Set: what it answers and leaves.
-/
import Derived.Test.YtobljchpphcolaaRefR
namespace Go.Proofs.Ytobljchpphcolaa
open Go.ChangeShapes Go.WideShapes Go.ChangeAt Go.RowKit
namespace Tg

theorem putN_tab {t : List Int} (h : Tab t) {lba n : Nat} (hr : lba + n ≤ t.length) (hn : n ≤ 512) {phys : Int} (hp : phys ≤ 1048576) : Tab (putN t lba phys n) := fun i => by
  have := h i
  rw [putN_get t lba phys n hr i]
  split
  · split <;> omega
  · exact this

set_option maxRecDepth 100000 in
set_option maxHeartbeats 1000000 in
/-- A range that is not right, or a page that may not be. -/
theorem set9_no {w : World} {a : Option Addr} {c : Nat} {t : List Int} (hc : t.length ≤ 512) (most lba n phys : Int) (cl : Bool) (hno : okR (t.length : Int) lba n = false ∨ (cl = false ∧ (phys < 0 ∨ 1048576 < phys))) :
    Calls Try.prog 14 #[.slice a t.length c, .int .i64 most, .int .i64 lba, .int .i64 n, .int .i64 phys, .bool cl] w fun e w' => e = .returned (.tuple #[.slice a t.length c, .int .i64 1]) ∧ w' = w := by
  have hr := right9 w (t.length : Int) lba n (by omega)
  cases o1 : okR (t.length : Int) lba n with
  | false =>
    rw [o1] at hr
    clear hno
    go_enter Try.func14, Try.ntmps14
    go_wp2_with (go_at_call 22; refine hr.mono ?_; rintro e w1 ⟨rfl, e1⟩; have e1 := e1.symm; subst e1)
    go_ret2
    exact ⟨rfl, rfl⟩
  | true =>
    rw [o1] at hr
    obtain ⟨rfl, hp⟩ := hno.resolve_left (by rw [o1]; simp)
    by_cases cp : phys < 0
    · clear hno hp
      go_enter Try.func14, Try.ntmps14
      go_wp2_with (go_at_call 22; refine hr.mono ?_; rintro e w1 ⟨rfl, e1⟩; have e1 := e1.symm; subst e1)
      go_ret2
      exact ⟨rfl, rfl⟩
    · have cp2 : 1048576 < phys := by omega
      clear hno hp
      go_enter Try.func14, Try.ntmps14
      go_wp2_with (go_at_call 22; refine hr.mono ?_; rintro e w1 ⟨rfl, e1⟩; have e1 := e1.symm; subst e1)
      go_ret2
      exact ⟨rfl, rfl⟩

/-- What Set leaves: the entries put, or as they were. -/
def Sat (w : World) (a : Option Addr) (c : Nat) (t u : List Int) (most : Int) (e : Ending) (w' : World) : Prop :=
  (((refR u u.length).length : Int) ≤ most ∧ ∃ a' c', e = .returned (.tuple #[.slice a' t.length c', .int .i64 0]) ∧ Ri w w' a' c' u) ∨ (most < ((refR u u.length).length : Int) ∧ e = .returned (.tuple #[.slice a t.length c, .int .i64 5]) ∧ Keep (fun _ => False) w w')

set_option maxRecDepth 100000 in
set_option maxHeartbeats 1000000 in
theorem set9_yes {w : World} {a : Option Addr} {c : Nat} {t : List Int} (h : Is w a c t) (h1 : 1 ≤ t.length) (h2 : t.length ≤ 512) (hb : Tab t) {lba n : Nat} (hn : 1 ≤ n) (hr : lba + n ≤ t.length) (most : Int) {phys : Int} (hp : 0 ≤ phys ∧ phys ≤ 1048576) :
    Calls Try.prog 14 #[.slice a t.length c, .int .i64 most, .int .i64 (lba : Int), .int .i64 (n : Int), .int .i64 phys, .bool false] w (Sat w a c t (putN t lba phys n) most) := by
  have hrt := right9 w (t.length : Int) (lba : Int) (n : Int) (by omega)
  rw [okR_iff.2 ⟨by omega, by omega, by omega⟩] at hrt
  have hput := put9 h h1 h2 hr (phys := phys) (by omega)
  have htab := putN_tab hb hr (by omega) hp.2
  have hul := putN_len t lba phys n
  have p1 : ¬ phys < 0 := by omega
  have p2 : ¬ 1048576 < phys := by omega
  generalize putN t lba phys n = u at hput htab hul ⊢
  have hul' : Hid (u.length = t.length) := hul
  clear h
  go_enter Try.func14, Try.ntmps14
  go_upto_region 6 with (first | (go_at_call 22; refine hrt.mono ?_; rintro e w1 ⟨rfl, e1⟩; have e1 := e1.symm; subst e1) | (go_at_call 34; refine hput.mono ?_; rintro e w2 ⟨a', c', rfl, R2⟩))
  have hru := runs9 R2.is (by omega) htab
  rw [hul] at hru
  have hE : Hid (refR u u.length = refR u t.length) := by show refR u u.length = _; rw [hul]
  have hln := refR_len u t.length
  generalize refR u t.length = m at hru hE hln
  have KK := R2.keep
  clear hput hrt hul
  by_cases hf : most < (m.length : Int)
  · have hf' : Hid (most < ((refR u u.length).length : Int)) := by show most < ((refR u u.length).length : Int); rw [show refR u u.length = m from hE]; exact hf
    go_wp2_with (go_at_call 35; refine hru.mono ?_; rintro e w3 ⟨a3, c3, rfl, R3⟩)
    go_ret2
    exact Or.inr ⟨hf', rfl, KK.trans R3.keep⟩
  · have hf' : Hid (((refR u u.length).length : Int) ≤ most) := by show ((refR u u.length).length : Int) ≤ most; rw [show refR u u.length = m from hE]; omega
    go_wp2_with (go_at_call 35; refine hru.mono ?_; rintro e w3 ⟨a3, c3, rfl, R3⟩)
    go_ret2
    exact Or.inl ⟨hf', a', c', rfl, R2.more R3.keep⟩
set_option maxRecDepth 100000 in
set_option maxHeartbeats 1000000 in
theorem clear9_yes {w : World} {a : Option Addr} {c : Nat} {t : List Int} (h : Is w a c t) (h1 : 1 ≤ t.length) (h2 : t.length ≤ 512) (hb : Tab t) {lba n : Nat} (hn : 1 ≤ n) (hr : lba + n ≤ t.length) (most : Int) :
    Calls Try.prog 14 #[.slice a t.length c, .int .i64 most, .int .i64 (lba : Int), .int .i64 (n : Int), .int .i64 0, .bool true] w (Sat w a c t (putN t lba (-1) n) most) := by
  have hrt := right9 w (t.length : Int) (lba : Int) (n : Int) (by omega)
  rw [okR_iff.2 ⟨by omega, by omega, by omega⟩] at hrt
  have hput := put9 h h1 h2 hr (phys := -1) (by omega)
  have htab := putN_tab hb hr (by omega) (phys := -1) (by omega)
  have hul := putN_len t lba (-1) n
  generalize putN t lba (-1) n = u at hput htab hul ⊢
  have hul' : Hid (u.length = t.length) := hul
  clear h
  go_enter Try.func14, Try.ntmps14
  go_upto_region 6 with (first | (go_at_call 22; refine hrt.mono ?_; rintro e w1 ⟨rfl, e1⟩; have e1 := e1.symm; subst e1) | (go_at_call 34; refine hput.mono ?_; rintro e w2 ⟨a', c', rfl, R2⟩))
  have hru := runs9 R2.is (by omega) htab
  rw [hul] at hru
  have hE : Hid (refR u u.length = refR u t.length) := by show refR u u.length = _; rw [hul]
  have hln := refR_len u t.length
  generalize refR u t.length = m at hru hE hln
  have KK := R2.keep
  clear hput hrt hul
  by_cases hf : most < (m.length : Int)
  · have hf' : Hid (most < ((refR u u.length).length : Int)) := by show most < ((refR u u.length).length : Int); rw [show refR u u.length = m from hE]; exact hf
    go_wp2_with (go_at_call 35; refine hru.mono ?_; rintro e w3 ⟨a3, c3, rfl, R3⟩)
    go_ret2
    exact Or.inr ⟨hf', rfl, KK.trans R3.keep⟩
  · have hf' : Hid (((refR u u.length).length : Int) ≤ most) := by show ((refR u u.length).length : Int) ≤ most; rw [show refR u u.length = m from hE]; omega
    go_wp2_with (go_at_call 35; refine hru.mono ?_; rintro e w3 ⟨a3, c3, rfl, R3⟩)
    go_ret2
    exact Or.inl ⟨hf', a', c', rfl, R2.more R3.keep⟩
end Tg
end Go.Proofs.Ytobljchpphcolaa
