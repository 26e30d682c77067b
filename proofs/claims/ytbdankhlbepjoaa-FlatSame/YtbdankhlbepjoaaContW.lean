/-
  What ContainsFunc answers of a row of runs, asked for a run's first sector.
-/
import Derived.Test.YtbdankhlbepjoaaRangeW
namespace Go.Proofs.Ytbdankhlbepjoaa
open Go.ChangeShapes Go.WideShapes Go.ChangeAt Go.RowKit
namespace Tg

/-- Does a run of a list begin there? -/
def hasL (v : Int) (f : List Rn) : Bool := f.any (fun x => x.lba == v)
theorem hasL_iff {v : Int} {f : List Rn} : hasL v f = true ↔ ∃ x ∈ f, x.lba = v := by simp [hasL]

set_option maxRecDepth 100000 in
theorem clo_any {w : World} {g : Nat} {r : Rn} (L : Lrn w g r) (f : Rn) :
    Calls Try.prog 59 #[.agg (rnA f), .pointer (some ⟨g, 0, none⟩)] w fun e w' => e = .returned (.bool (f.lba == r.lba)) ∧ Keep (fun _ => False) w w' := by
  have K1 : Keep (fun _ => False) w (w.alloc (.cells (rnA f) 55)) := (Keep.refl _ _).alloc _
  obtain ⟨p0, -, -⟩ := (L.more K1).c
  rw [rnA_lit] at K1 p0 ⊢
  clear L
  go_enter Try.func59, Try.ntmps59
  go_wp2_with fail
  go_ret
  exact ⟨rfl, K1⟩

set_option maxRecDepth 100000 in
set_option maxHeartbeats 1000000 in
theorem index_any {w : World} {a : Option Addr} {c g : Nat} {f : List Rn} {r : Rn} (h : Rs w a c f) (hl : f.length ≤ 100000) (L : Lrn w g r) :
    Calls Try.prog 65 #[.slice a f.length c, .func (Fn.func 59) #[] #[.pointer (some ⟨g, 0, none⟩)]] w fun e w' => ∃ k : Int, e = .returned (.int .i64 k) ∧ decide (0 ≤ k) = hasL r.lba f ∧ Keep (fun _ => False) w w' := by
  have hc := h.1
  have K0 := Keep.refl (fun _ => False) w
  have hl' : Hid (f.length ≤ 100000) := hl
  have dl : (f.length : Int) ≤ 100000 := by omega
  clear hl
  go_enter Try.func65, Try.ntmps65
  go_wp2_with fail
  go_loopw [8] (fun v wx => ∃ i : Nat, i ≤ f.length ∧ v = .int .i64 (i : Int) ∧ Hid (∀ x ∈ f.take i, ¬ x.lba = r.lba) ∧ Keep (fun _ => False) w wx) (fun v _ => f.length - (intOf v).toNat)
  case atStart => exact ⟨0, by omega, rfl, by intro x hx; simp at hx, K0⟩
  case round =>
    obtain ⟨i, hi, rfl, hI, k1⟩ := hrel
    by_cases hlt : i < f.length
    · obtain ⟨x, hx⟩ := get_rn hlt
      obtain ⟨g1, rfl, e0, e1, e2⟩ := (h.more k1).at hx
      have di : (i : Int) < (f.length : Int) := by omega
      have dw := wrapI (x := (i : Int) + 1) (by omega) (by omega)
      have hcl := clo_any (L.more k1) x
      rw [rnA_lit] at hcl
      have htk : Hid (f.take (i + 1) = f.take i ++ [x]) := by show f.take (i + 1) = f.take i ++ [x]; rw [List.take_add_one, hx]; rfl
      have hmem : Hid (x ∈ f) := List.mem_of_getElem? hx
      have hlt' : Hid (i < f.length) := hlt
      by_cases e : x.lba = r.lba
      · have eb : (x.lba == r.lba) = true := by simp [e]
        have e' : Hid (x.lba = r.lba) := e
        rw [eb] at hcl
        clear hx e eb hlt h
        go_wp2_with (go_at_call 59; refine hcl.mono ?_; rintro e w2 ⟨rfl, k2⟩)
        go_ret
        exact ⟨i, rfl, by rw [hasL_iff.2 ⟨x, hmem, e'⟩]; simp, k1.trans k2⟩
      · have eb : (x.lba == r.lba) = false := by simp [e]
        have e' : Hid (¬ x.lba = r.lba) := e
        rw [eb] at hcl
        clear hx e eb hlt
        go_wp2_with (go_at_call 59; refine hcl.mono ?_; rintro e w2 ⟨rfl, k2⟩)
        go_roundw
        case rel =>
          refine ⟨i + 1, hlt', by go_num, ?_, k1.trans k2⟩
          intro y hy
          rw [(show f.take (i + 1) = f.take i ++ [x] from htk)] at hy
          rcases List.mem_append.1 hy with hy | hy
          · exact hI y hy
          · simp at hy; subst hy; exact e'
        case measure => have : i < f.length := hlt'; simp [intOf]; omega
    · have di : ¬ (i : Int) < (f.length : Int) := by omega
      have hno : Hid (hasL r.lba f = false) := by
        show hasL r.lba f = false
        rw [Bool.eq_false_iff]
        intro hh
        obtain ⟨x, hx, e⟩ := hasL_iff.1 hh
        exact hI x (by rw [List.take_of_length_le (by omega)]; exact hx) e
      clear h L hlt
      go_wp2_with fail
      go_ret
      exact ⟨-1, rfl, by rw [show hasL r.lba f = false from hno]; rfl, k1⟩

set_option maxRecDepth 100000 in
theorem cont_any {w : World} {a : Option Addr} {c g : Nat} {f : List Rn} {r : Rn} (h : Rs w a c f) (hl : f.length ≤ 100000) (L : Lrn w g r) :
    Calls Try.prog 58 #[.slice a f.length c, .func (Fn.func 59) #[] #[.pointer (some ⟨g, 0, none⟩)]] w fun e w' => e = .returned (.bool (hasL r.lba f)) ∧ Keep (fun _ => False) w w' := by
  have hi := index_any h hl L
  clear h L
  go_enter Try.func58, Try.ntmps58
  go_wp2_with (go_at_call 65; refine hi.mono ?_; rintro e w2 ⟨k, rfl, hk, k2⟩)
  go_ret
  exact ⟨rfl, k2⟩
end Tg
end Go.Proofs.Ytbdankhlbepjoaa
