/-
  What the document's own Form and inside, and the statements' far, answer.
-/
import Derived.Test.YtobljchpphcolaaWholeW
namespace Go.Proofs.Ytobljchpphcolaa
open Go.ChangeShapes Go.WideShapes Go.ChangeAt Go.RowKit
namespace Tg

set_option maxRecDepth 100000 in
theorem inside_any (w : World) {n least : Int} (h1 : least ≤ n) (h2 : n ≤ 1073741824) :
    Calls Try.prog 40 #[.int .i64 n, .int .i64 least] w fun e w' => e = .returned (.bool true) ∧ w' = w := by
  go_enter Try.func40, Try.ntmps40
  go_wp2_with fail
  go_ret
  exact ⟨rfl, rfl⟩

/-- Does a run begin beyond the pages of a Set? -/
def farL (m : List Rn) : Bool := m.any (fun x => decide (1048576 < x.phys))
set_option maxRecDepth 100000 in
theorem far_any {w : World} {a : Option Addr} {c : Nat} {m : List Rn} (h : Rs w a c m) (hl : m.length ≤ 100000) :
    Calls Try.prog 21 #[.slice a m.length c] w fun e w' => e = .returned (.bool (farL m)) ∧ w' = w := by
  have hc := h.1
  have dl : (m.length : Int) ≤ 100000 := by omega
  clear hl
  go_enter Try.func21, Try.ntmps21
  go_wp2_with fail
  go_loopw [3] (fun v wx => ∃ i : Nat, i ≤ m.length ∧ v = .int .i64 (i : Int) ∧ Hid (∀ x ∈ m.take i, ¬ 1048576 < x.phys) ∧ w = wx) (fun v _ => m.length - (intOf v).toNat)
  case atStart => exact ⟨0, by omega, rfl, by intro x hx; simp at hx, rfl⟩
  case round =>
    obtain ⟨i, hi, rfl, hI, rfl⟩ := hrel
    by_cases hlt : i < m.length
    · obtain ⟨x, hx⟩ := get_rn hlt
      obtain ⟨g, rfl, e0, e1, e2⟩ := h.at hx
      have di : (i : Int) < (m.length : Int) := by omega
      have dw := wrapI (x := (i : Int) + 1) (by omega) (by omega)
      have hlt' : Hid (i < m.length) := hlt
      have htk : Hid (m.take (i + 1) = m.take i ++ [x]) := take_next hx
      by_cases e : 1048576 < x.phys
      · have hT : Hid (farL m = true) := by show farL m = true; simp only [farL, List.any_eq_true]; exact ⟨x, List.mem_of_getElem? hx, decide_eq_true e⟩
        clear hx hlt h
        go_wp2_with fail
        go_ret
        exact ⟨by rw [show farL m = true from hT]; rfl, rfl⟩
      · have e' : Hid (¬ 1048576 < x.phys) := e
        clear hx hlt h
        go_wp2_with fail
        go_roundw
        case rel =>
          refine ⟨i + 1, hlt', by go_num, ?_, trivial⟩
          intro y hy
          rw [(show m.take (i + 1) = m.take i ++ [x] from htk)] at hy
          rcases List.mem_append.1 hy with hy | hy
          · exact hI y hy
          · simp at hy; subst hy; exact e'
        case measure => have : i < m.length := hlt'; simp [intOf]; omega
    · have di : ¬ (i : Int) < (m.length : Int) := by omega
      have hF : Hid (farL m = false) := by
        show farL m = false
        rw [Bool.eq_false_iff]
        intro hh
        simp only [farL, List.any_eq_true] at hh
        obtain ⟨x, hx, e⟩ := hh
        exact hI x (by rw [List.take_of_length_le (by omega)]; exact hx) (of_decide_eq_true e)
      clear hlt h
      go_wp2_with fail
      go_ret
      exact ⟨by rw [show farL m = false from hF]; rfl, rfl⟩

theorem form_next {m : List Rn} (h : Form m) {i : Nat} {x y : Rn} (hx : m[i]? = some x) (hy : m[i + 1]? = some y) : x.fin ≤ y.lba ∧ ¬ Glued x y := by
  have h1 := List.getElem?_eq_some_iff.1 hx
  have h2 := List.getElem?_eq_some_iff.1 hy
  have := List.pairwise_iff_getElem.1 h.2 i (i + 1) h1.1 h2.1 (by omega)
  rwa [h1.2, h2.2] at this

set_option maxRecDepth 100000 in
set_option maxHeartbeats 2000000 in
theorem form9 {w : World} {a : Option Addr} {c : Nat} {m : List Rn} (h : Rs w a c m) (hf : Form m) (hb : ∀ x ∈ m, x.lba + x.len ≤ 512 ∧ x.phys + x.len ≤ 1049088) (hl : m.length ≤ 512) :
    Calls Try.prog 19 #[.slice a m.length c] w fun e w' => e = .returned (.bool true) ∧ Keep (fun _ => False) w w' := by
  have hc := h.1
  have dl : (m.length : Int) ≤ 512 := by omega
  have K0 := Keep.refl (fun _ => False) w
  clear hl
  go_enter Try.func19, Try.ntmps19
  go_wp2_with fail
  go_loopw [3] (fun v wx => ∃ i : Nat, i ≤ m.length ∧ v = .int .i64 (i : Int) ∧ Keep (fun _ => False) w wx) (fun v _ => m.length - (intOf v).toNat)
  case atStart => exact ⟨0, by omega, rfl, K0⟩
  case round =>
    obtain ⟨i, hi, rfl, k1⟩ := hrel
    by_cases hlt : i < m.length
    · obtain ⟨y, hy⟩ := get_rn hlt
      have hym := List.mem_of_getElem? hy
      have yo := hf.1 y hym
      have yb := hb y hym
      have y1 := yo.1
      have y2 := yo.2.1
      have y3 := yo.2.2
      have i1 := inside_any wr (n := y.lba) (least := 0) y1 (by omega)
      have i2 := inside_any wr (n := y.phys) (least := 0) y3 (by omega)
      have i3 := inside_any wr (n := y.len) (least := 1) y2 (by omega)
      have di : (i : Int) < (m.length : Int) := by omega
      have dw := wrapI (x := (i : Int) + 1) (by omega) (by omega)
      have hlt' : Hid (i < m.length) := hlt
      obtain ⟨g, rfl, e0, e1, e2⟩ := (h.more k1).at hy
      by_cases hz : i = 0
      · subst hz
        clear hf hb hy hym h yo yb hlt
        go_wp2_with fail
        refine i1.mono ?_
        rintro e wz ⟨rfl, ez⟩
        have ez := ez.symm
        subst ez
        go_wp2_with fail
        refine i2.mono ?_
        rintro e wz ⟨rfl, ez⟩
        have ez := ez.symm
        subst ez
        go_wp2_with fail
        refine i3.mono ?_
        rintro e wz ⟨rfl, ez⟩
        have ez := ez.symm
        subst ez
        go_wp2_with fail
        go_roundw
        case rel => exact ⟨1, hlt', rfl, k1⟩
        case measure => have : 0 < m.length := hlt'; simp [intOf]; omega
      · obtain ⟨j, hij⟩ : ∃ j, i = j + 1 := ⟨i - 1, by omega⟩
        obtain ⟨x, hx⟩ := get_rn (show j < m.length by omega)
        have hxm := List.mem_of_getElem? hx
        have xo := hf.1 x hxm
        have xb := hb x hxm
        have hxy := form_next hf hx (by rw [← hij]; exact hy)
        unfold Glued Rn.fin at hxy
        obtain ⟨g', eg, f0, f1, f2⟩ := (h.more k1).at hx
        injection eg with eg; injection eg with eg; subst eg
        have dj : IntKind.i64.wrap ((i : Int) - 1) = (j : Int) := (wrapI (x := (i : Int) - 1) (by omega) (by omega)).trans (by omega)
        have djl : (j : Int) < (m.length : Int) := by omega
        have dz : ((i : Int) == 0) = false := by rw [beq_eq_false_iff_ne]; omega
        have x1 := xo.1
        have x2 := xo.2.1
        have x3 := xo.2.2
        have s1 := wrapI (x := x.lba + x.len) (by omega) (by omega)
        have s2 := wrapI (x := x.phys + x.len) (by omega) (by omega)
        have s3 : ¬ y.lba < x.lba + x.len := by omega
        have L8 := Lrn.new wr x
        have K8 : Keep (fun _ => False) wr (wr.alloc (.cells (rnA x) 49)) := (Keep.refl _ _).alloc _
        have h8 := fun (w' : World) (hk : Keep (fun _ => False) wr w') => And.intro (hk.cell e0) (And.intro (hk.cell e1) (hk.cell e2))
        clear hij hz
        generalize hW : wr.alloc (.cells (rnA x) 49) = w8 at L8 K8
        rw [rnA_lit] at hW
        clear hf hb hy hym h yo yb hlt hx hxm xo xb
        go_wp2_with fail
        refine i1.mono ?_
        rintro e wz ⟨rfl, ez⟩
        have ez := ez.symm
        subst ez
        go_wp2_with fail
        refine i2.mono ?_
        rintro e wz ⟨rfl, ez⟩
        have ez := ez.symm
        subst ez
        go_wp2_with fail
        refine i3.mono ?_
        rintro e wz ⟨rfl, ez⟩
        have ez := ez.symm
        subst ez
        go_upto_region 8 with fail
        obtain ⟨z0, z1, z2⟩ := h8 w8 K8
        obtain ⟨p0, p1, p2⟩ := L8.c
        clear h8 i1 i2 i3
        have s3d : decide (y.lba < x.lba + x.len) = false := decide_eq_false (by omega)
        by_cases e : x.lba + x.len = y.lba
        · have b1 : (x.lba + x.len == y.lba) = true := by simp [e]
          have b2 : (x.phys + x.len == y.phys) = false := by
            rw [beq_eq_false_iff_ne]
            exact fun e2 => hxy.2 ⟨e, e2⟩
          clear e hxy
          go_quiet (fail)
          have K9 := (k1.trans K8).drewN nq
          generalize w8.drewN nq = w9 at K9 ⊢
          clear b1 s1 s2 s3d z0 z1 z2 p0 p1 p2 e0 e1 e2 f0 f1 f2 dj djl hW K8 L8 x1 x2 x3 s3 y1 y2 y3
          go_wp2_with fail
          go_roundw
          case rel => exact ⟨i + 1, hlt', by go_num, K9⟩
          case measure => have : i < m.length := hlt'; simp [intOf]; omega
        · have b1 : (x.lba + x.len == y.lba) = false := by rw [beq_eq_false_iff_ne]; exact e
          clear e hxy
          go_quiet (fail)
          have K9 := (k1.trans K8).drewN nq
          generalize w8.drewN nq = w9 at K9 ⊢
          clear b1 s1 s2 s3d z0 z1 z2 p0 p1 p2 e0 e1 e2 f0 f1 f2 dj djl hW K8 L8 x1 x2 x3 s3 y1 y2 y3
          go_wp2_with fail
          go_roundw
          case rel => exact ⟨i + 1, hlt', by go_num, K9⟩
          case measure => have : i < m.length := hlt'; simp [intOf]; omega
    · have di : ¬ (i : Int) < (m.length : Int) := by omega
      clear hlt h hf hb
      go_wp2_with fail
      go_ret
      exact ⟨rfl, k1⟩
end Tg
end Go.Proofs.Ytobljchpphcolaa
