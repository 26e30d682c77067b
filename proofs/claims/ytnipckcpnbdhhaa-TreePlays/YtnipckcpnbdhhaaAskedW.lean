/-
  Find, Floor and Ceil held against the statement's own list: asked answers true where the tree has just the list's runs.
-/
import Derived.Test.YtnipckcpnbdhhaaRrow
namespace Go.Proofs.Ytnipckcpnbdhhaa
open Go.ChangeShapes Go.WideShapes Go.ChangeAt Go.RowKit
namespace Tg

theorem Tr.sub_run (k : Int) : ∀ t : Tr, (t.sub k).run = t.find k
  | .nil => rfl
  | .node i l x r => by
    rw [Tr.sub, Tr.find]
    split
    · next e => rw [if_neg (by omega), if_neg (by omega)]; rfl
    · next e =>
      split
      · exact Tr.sub_run k l
      · rw [if_pos (by omega)]; exact Tr.sub_run k r
theorem Tr.fl_run (k : Int) : ∀ (t d : Tr), (Tr.fl k t d).run = t.floor k d.run
  | .nil, d => rfl
  | .node i l x r, d => by
    rw [Tr.fl, Tr.floor]
    split
    · rw [if_neg (by omega)]; exact Tr.fl_run k r _
    · rw [if_pos (by omega)]; exact Tr.fl_run k l d
theorem Tr.ce_run (k : Int) : ∀ (t d : Tr), (Tr.ce k t d).run = t.ceil k d.run
  | .nil, d => rfl
  | .node i l x r, d => by
    rw [Tr.ce, Tr.ceil]
    split
    · rw [if_neg (by omega)]; exact Tr.ce_run k l _
    · rw [if_pos (by omega)]; exact Tr.ce_run k r d

theorem idx_find {v : Int} : ∀ m : List Rn, Idx m (atL v m) (Tr.findL v m) := by
  intro m
  have key : ∀ m : List Rn, (m.findIdx? (fun x => x.lba = v) = none ∧ Tr.findL v m = none) ∨ ∃ i x, m.findIdx? (fun x => x.lba = v) = some i ∧ m[i]? = some x ∧ Tr.findL v m = some x := by
    intro m
    induction m with
    | nil => exact Or.inl ⟨rfl, rfl⟩
    | cons y m ih =>
      rw [List.findIdx?_cons, Tr.findL]
      by_cases e : y.lba = v
      · rw [if_pos (by simpa using e), if_pos e]
        exact Or.inr ⟨0, y, rfl, rfl, rfl⟩
      · rw [if_neg (by simpa using e), if_neg e]
        rcases ih with ⟨h1, h2⟩ | ⟨i, x, h1, h2, h3⟩
        · exact Or.inl ⟨by rw [h1]; rfl, h2⟩
        · exact Or.inr ⟨i + 1, x, by rw [h1]; rfl, by simpa using h2, h3⟩
  rcases key m with ⟨h1, h2⟩ | ⟨i, x, h1, h2, h3⟩
  · exact Or.inl ⟨by simp [atL, h1], h2⟩
  · exact Or.inr ⟨i, x, by simp [atL, h1], h2, h3⟩
theorem ceilL_or {k : Int} : ∀ (m : List Rn) (d : Option Rn), Tr.ceilL k m d = (Tr.ceilL k m none).or d
  | [], d => by simp [Tr.ceilL]
  | y :: m, d => by
    rw [Tr.ceilL, Tr.ceilL]
    split
    · rfl
    · exact ceilL_or m d
theorem ceilL_snoc {k : Int} (m : List Rn) (y : Rn) : Tr.ceilL k (m ++ [y]) none = (Tr.ceilL k m none).or (if k ≤ y.lba then some y else none) := by
  rw [Tr.ceilL_app, ceilL_or]; rfl
theorem floorL_snoc {k : Int} (m : List Rn) (y : Rn) : Tr.floorL k (m ++ [y]) none = if y.lba ≤ k then some y else Tr.floorL k m none := by
  rw [Tr.floorL_app]; rfl
theorem Idx.there {m : List Rn} {i : Nat} {x : Rn} (h : m[i]? = some x) : Idx m (i : Int) (some x) := Or.inr ⟨i, x, rfl, h, rfl⟩
theorem Idx.neg {m : List Rn} {k : Int} {o : Option Rn} (h : Idx m k o) (hk : k < 0) : o = none := by
  rcases h with ⟨_, h⟩ | ⟨i, x, h, _⟩
  · exact h
  · omega
theorem Idx.pos {m : List Rn} {k : Int} {o : Option Rn} (h : Idx m k o) (hk : ¬ k < 0) : ∃ x, o = some x := by
  rcases h with ⟨h, _⟩ | ⟨i, x, _, _, h⟩
  · omega
  · exact ⟨x, h⟩
theorem Idx.le {m : List Rn} {k : Int} {o : Option Rn} (h : Idx m k o) : -1 ≤ k := by
  rcases h with ⟨h, _⟩ | ⟨i, x, h, _⟩ <;> omega

set_option maxRecDepth 100000 in
set_option maxHeartbeats 2000000 in
theorem asked_any {w0 w : World} {b p k N : Nat} {l : List Nat} {t : Tr} {a : Option Addr} {cap : Nat} (h : Mt w0 w b p k N l t) (hr : Rs w a cap t.runs) (hl : t.runs.length ≤ 512) (v : Int) :
    Calls Try.prog 19 #[.pointer (some ⟨b, 0, none⟩), .slice a t.runs.length cap, .int .i64 v] w fun e w' => e = .returned (.bool true) ∧ Keep (fun _ => False) w w' := by
  have hup := Tr.ord_up.1 (show t.Ord by obtain ⟨s, hT, _⟩ := h.ex; exact hT.ord)
  have e1 : (t.sub v).run = Tr.findL v t.runs := by rw [Tr.sub_run, Tr.find_eq v t hup]
  have e2 : (Tr.fl v t .nil).run = Tr.floorL v t.runs none := by rw [Tr.fl_run, Tr.floor_eq v t _ hup]; rfl
  have e3 : (Tr.ce v t .nil).run = Tr.ceilL v t.runs none := by rw [Tr.ce_run, Tr.ceil_eq v t _ hup]; rfl
  have c1 := h.find v
  rw [e1] at c1
  unfold ansV at c1
  rw [rnA_lit] at c1
  generalize t.runs = m at *
  have i1 := idx_find (v := v) m
  go_enter Try.func19, Try.ntmps19
  go_wp2_with fail
  refine c1.mono ?_
  rintro e w1 ⟨rfl, k1⟩
  clear c1
  have x1 := Lrn.new w1 ((Tr.findL v m).getD rn0)
  have a1 : Keep (fun _ => False) w1 (w1.alloc (.cells (rnA ((Tr.findL v m).getD rn0)) 31)) := (Keep.refl _ _).alloc _
  have h2 := (h.more k1).more a1
  have K2 := k1.trans a1
  rw [rnA_lit] at x1 a1 h2 K2
  have c2 := h2.floor v
  rw [e2] at c2
  unfold ansV at c2
  rw [rnA_lit] at c2
  go_wp2_with fail
  refine c2.mono ?_
  rintro e w3 ⟨rfl, k3⟩
  clear c2
  have y3 := Lrn.new w3 ((Tr.floorL v m none).getD rn0)
  have a3 : Keep (fun _ => False) w3 (w3.alloc (.cells (rnA ((Tr.floorL v m none).getD rn0)) 31)) := (Keep.refl _ _).alloc _
  have h4 := (h2.more k3).more a3
  have K4 := K2.trans (k3.trans a3)
  have x4 := x1.more (k3.trans a3)
  rw [rnA_lit] at y3 a3 h4 K4 x4
  have c3 := h4.ceil v
  rw [e3] at c3
  unfold ansV at c3
  rw [rnA_lit] at c3
  go_wp2_with fail
  refine c3.mono ?_
  rintro e w5 ⟨rfl, k5⟩
  clear c3
  have z5 := Lrn.new w5 ((Tr.ceilL v m none).getD rn0)
  have a5 : Keep (fun _ => False) w5 (w5.alloc (.cells (rnA ((Tr.ceilL v m none).getD rn0)) 31)) := (Keep.refl _ _).alloc _
  have K6 := K4.trans (k5.trans a5)
  have x6 := x4.more (k5.trans a5)
  have y6 := y3.more (k5.trans a5)
  rw [rnA_lit] at z5 a5 K6 x6 y6
  have r6 := hr.more K6
  clear e1 e2 e3 h2 h4 h K2 K4 x1 x4 y3 a1 a3 a5 k1 k3 k5
  generalize w1.heap.size = g1 at x6 ⊢
  generalize w3.heap.size = g3 at y6 ⊢
  have hl' : Hid (m.length ≤ 512) := hl
  have d0 : (m.length : Int) ≤ 9223372036854775807 := by omega
  have d1 : m.length ≤ cap := hr.1
  clear hl hr
  go_wp2_with fail
  generalize w5.alloc (.cells #[.int .i64 ((Tr.ceilL v m none).getD rn0).lba, .int .i64 ((Tr.ceilL v m none).getD rn0).len, .int .i64 ((Tr.ceilL v m none).getD rn0).phys] 31) = w6 at K6 x6 y6 z5 r6 ⊢
  generalize w5.heap.size = g5 at z5 ⊢
  go_loopw [13, 14, 15] (fun c d e wr => ∃ (i : Nat) (f g : Int), i ≤ m.length ∧ c = .int .i64 f ∧ d = .int .i64 g ∧ e = .int .i64 (i : Int) ∧ Idx m f (Tr.floorL v (m.take i) none) ∧ Idx m g (Tr.ceilL v (m.take i) none) ∧ w6 = wr) (fun _ _ e _ => m.length - (intOf e).toNat)
  case atStart => exact ⟨0, -1, -1, by omega, rfl, rfl, rfl, Or.inl ⟨rfl, by simp [Tr.floorL]⟩, Or.inl ⟨rfl, by simp [Tr.ceilL]⟩, rfl⟩
  case round =>
    obtain ⟨i, f, g, hi, rfl, rfl, rfl, hf, hg, rfl⟩ := hrel
    by_cases hlt : i < m.length
    · have di : (i : Int) < (m.length : Int) := by omega
      have di1 : IntKind.i64.wrap ((i : Int) + 1) = (i : Int) + 1 := by have : m.length ≤ 512 := hl'; rw [IntKind.wrap_i64]; omega
      obtain ⟨x, hx⟩ := get_rn hlt
      obtain ⟨ga, rfl, c0, -, -⟩ := r6.at hx
      have htk : Hid (m.take (i + 1) = m.take i ++ [x]) := by show m.take (i + 1) = m.take i ++ [x]; rw [List.take_add_one, hx]; rfl
      have hlt' : Hid (i < m.length) := hlt
      have hx' : Hid (m[i]? = some x) := hx
      have hf' : Hid (Idx m f (Tr.floorL v (m.take i) none)) := hf
      have hg' : Hid (Idx m g (Tr.ceilL v (m.take i) none)) := hg
      clear hlt hx hf hg x6 y6 z5 r6 i1 hup
      by_cases le : x.lba ≤ v
      · by_cases ge : v ≤ x.lba
        · by_cases gn : g < 0
          · have rf : Hid (Idx m (i : Int) (Tr.floorL v (m.take (i + 1)) none)) := by
              show Idx m (i : Int) (Tr.floorL v (m.take (i + 1)) none)
              rw [(show m.take (i + 1) = m.take i ++ [x] from htk), floorL_snoc, if_pos le]; exact Idx.there hx'
            have rg : Hid (Idx m (i : Int) (Tr.ceilL v (m.take (i + 1)) none)) := by
              show Idx m (i : Int) (Tr.ceilL v (m.take (i + 1)) none)
              rw [(show m.take (i + 1) = m.take i ++ [x] from htk), ceilL_snoc, Idx.neg (show Idx m g _ from hg') gn, if_pos ge]; exact Idx.there hx'
            clear hf' hg' hx'
            go_wp2_with fail
            go_roundw
            case rel => exact ⟨i + 1, (i : Int), (i : Int), hlt', rfl, rfl, by go_num, rf, rg, trivial⟩
            case measure => have : i < m.length := hlt'; simp [intOf]; omega
          · have rf : Hid (Idx m (i : Int) (Tr.floorL v (m.take (i + 1)) none)) := by
              show Idx m (i : Int) (Tr.floorL v (m.take (i + 1)) none)
              rw [(show m.take (i + 1) = m.take i ++ [x] from htk), floorL_snoc, if_pos le]; exact Idx.there hx'
            have rg : Hid (Idx m g (Tr.ceilL v (m.take (i + 1)) none)) := by
              show Idx m g (Tr.ceilL v (m.take (i + 1)) none)
              obtain ⟨z, hz⟩ := Idx.pos (show Idx m g _ from hg') (by omega); rw [(show m.take (i + 1) = m.take i ++ [x] from htk), ceilL_snoc, hz]; rw [hz] at hg'; exact hg'
            clear hf' hg' hx'
            go_wp2_with fail
            go_roundw
            case rel => exact ⟨i + 1, (i : Int), g, hlt', rfl, rfl, by go_num, rf, rg, trivial⟩
            case measure => have : i < m.length := hlt'; simp [intOf]; omega
        · have rf : Hid (Idx m (i : Int) (Tr.floorL v (m.take (i + 1)) none)) := by
            show Idx m (i : Int) (Tr.floorL v (m.take (i + 1)) none)
            rw [(show m.take (i + 1) = m.take i ++ [x] from htk), floorL_snoc, if_pos le]; exact Idx.there hx'
          have rg : Hid (Idx m g (Tr.ceilL v (m.take (i + 1)) none)) := by
            show Idx m g (Tr.ceilL v (m.take (i + 1)) none)
            rw [(show m.take (i + 1) = m.take i ++ [x] from htk), ceilL_snoc, if_neg (by omega), Option.or_none]; exact hg'
          clear hf' hg' hx'
          go_wp2_with fail
          go_roundw
          case rel => exact ⟨i + 1, (i : Int), g, hlt', rfl, rfl, by go_num, rf, rg, trivial⟩
          case measure => have : i < m.length := hlt'; simp [intOf]; omega
      · have ge : v ≤ x.lba := by omega
        by_cases gn : g < 0
        · have rf : Hid (Idx m f (Tr.floorL v (m.take (i + 1)) none)) := by
            show Idx m f (Tr.floorL v (m.take (i + 1)) none)
            rw [(show m.take (i + 1) = m.take i ++ [x] from htk), floorL_snoc, if_neg (by omega)]; exact hf'
          have rg : Hid (Idx m (i : Int) (Tr.ceilL v (m.take (i + 1)) none)) := by
            show Idx m (i : Int) (Tr.ceilL v (m.take (i + 1)) none)
            rw [(show m.take (i + 1) = m.take i ++ [x] from htk), ceilL_snoc, Idx.neg (show Idx m g _ from hg') gn, if_pos ge]; exact Idx.there hx'
          clear hf' hg' hx'
          go_wp2_with fail
          go_roundw
          case rel => exact ⟨i + 1, f, (i : Int), hlt', rfl, rfl, by go_num, rf, rg, trivial⟩
          case measure => have : i < m.length := hlt'; simp [intOf]; omega
        · have rf : Hid (Idx m f (Tr.floorL v (m.take (i + 1)) none)) := by
            show Idx m f (Tr.floorL v (m.take (i + 1)) none)
            rw [(show m.take (i + 1) = m.take i ++ [x] from htk), floorL_snoc, if_neg (by omega)]; exact hf'
          have rg : Hid (Idx m g (Tr.ceilL v (m.take (i + 1)) none)) := by
            show Idx m g (Tr.ceilL v (m.take (i + 1)) none)
            obtain ⟨z, hz⟩ := Idx.pos (show Idx m g _ from hg') (by omega); rw [(show m.take (i + 1) = m.take i ++ [x] from htk), ceilL_snoc, hz]; rw [hz] at hg'; exact hg'
          clear hf' hg' hx'
          go_wp2_with fail
          go_roundw
          case rel => exact ⟨i + 1, f, g, hlt', rfl, rfl, by go_num, rf, rg, trivial⟩
          case measure => have : i < m.length := hlt'; simp [intOf]; omega
    · have di : ¬ (i : Int) < (m.length : Int) := by omega
      rw [List.take_of_length_le (by omega)] at hf hg
      have cat := at_any r6 hl' v
      have s1 := same_any r6 i1
      have q0 := (x6 0 (by omega)).1
      have q1 := (x6 1 (by omega)).1
      have q2 := (x6 2 (by omega)).1
      simp only [rcell] at q0 q1 q2
      rw [rnA_lit] at s1
      have HF : Hid (Idx m f (Tr.floorL v m none)) := hf
      have HG : Hid (Idx m g (Tr.ceilL v m none)) := hg
      clear hf hg i1 hlt hup
      go_wp2_with fail
      refine cat.mono ?_
      rintro e wz ⟨rfl, e0⟩
      have e0 := e0.symm
      subst e0
      clear cat
      go_wp2_with fail
      refine s1.mono ?_
      rintro e w7 ⟨rfl, k7⟩
      clear s1 q0 q1 q2 x6
      have s2 := same_any (r6.more k7) (show Idx m f (Tr.floorL v m none) from HF)
      have y7 := y6.more k7
      have q0 := (y7 0 (by omega)).1
      have q1 := (y7 1 (by omega)).1
      have q2 := (y7 2 (by omega)).1
      simp only [rcell] at q0 q1 q2
      rw [rnA_lit] at s2
      go_wp2_with fail
      refine s2.mono ?_
      rintro e w8 ⟨rfl, k8⟩
      clear s2 q0 q1 q2 y6 y7
      have s3 := same_any ((r6.more k7).more k8) (show Idx m g (Tr.ceilL v m none) from HG)
      have z8 := (z5.more k7).more k8
      have q0 := (z8 0 (by omega)).1
      have q1 := (z8 1 (by omega)).1
      have q2 := (z8 2 (by omega)).1
      simp only [rcell] at q0 q1 q2
      rw [rnA_lit] at s3
      go_wp2_with fail
      refine s3.mono ?_
      rintro e w9 ⟨rfl, k9⟩
      clear s3 q0 q1 q2 z5 z8 r6
      go_wp2_with fail
      go_ret
      exact ⟨rfl, ((K6.trans k7).trans k8).trans k9⟩
end Tg
end Go.Proofs.Ytnipckcpnbdhhaa
