/-
  What the statement's own put makes: a new list with one run more, in its place.
-/
import Derived.Test.YtnipckcpnbdhhaaRrow
namespace Go.Proofs.Ytnipckcpnbdhhaa
open Go.ChangeShapes Go.WideShapes Go.ChangeAt Go.RowKit
namespace Tg

/-- How far the list is copied. -/
def Half (r : Rn) (m : List Rn) (i : Nat) (o : List Rn) (d : Bool) : Prop :=
  (d = true ∧ o ++ m.drop i = putR r m) ∨ (d = false ∧ o = m.take i ∧ m.take i ++ putR r (m.drop i) = putR r m)
theorem Half.start (r : Rn) (m : List Rn) : Half r m 0 [] false := Or.inr ⟨rfl, by simp, by simp⟩
theorem drop_cons {m : List Rn} {i : Nat} {x : Rn} (h : m[i]? = some x) : m.drop i = x :: m.drop (i + 1) := by
  rw [List.drop_eq_getElem_cons (List.getElem?_eq_some_iff.1 h).1]
  congr 1
  exact (List.getElem?_eq_some_iff.1 h).2
theorem Half.more {r : Rn} {m : List Rn} {i : Nat} {o : List Rn} {x : Rn} (h : Half r m i o true) (hx : m[i]? = some x) : Half r m (i + 1) (o ++ [x]) true := by
  rcases h with ⟨_, h⟩ | ⟨h, _⟩
  · refine Or.inl ⟨rfl, ?_⟩
    rw [← h, drop_cons hx]; simp
  · cases h
theorem Half.put {r : Rn} {m : List Rn} {i : Nat} {o : List Rn} {x : Rn} (h : Half r m i o false) (hx : m[i]? = some x) (e : r.lba < x.lba) : Half r m (i + 1) (o ++ [r] ++ [x]) true := by
  rcases h with ⟨h, _⟩ | ⟨_, rfl, h⟩
  · cases h
  · refine Or.inl ⟨rfl, ?_⟩
    rw [← h, drop_cons hx, putR, if_pos e]; simp
theorem Half.past {r : Rn} {m : List Rn} {i : Nat} {o : List Rn} {x : Rn} (h : Half r m i o false) (hx : m[i]? = some x) (e : ¬ r.lba < x.lba) : Half r m (i + 1) (o ++ [x]) false := by
  rcases h with ⟨h, _⟩ | ⟨_, rfl, h⟩
  · cases h
  · refine Or.inr ⟨rfl, by rw [List.take_add_one, hx]; rfl, ?_⟩
    rw [← h, drop_cons hx, putR, if_neg e, List.take_add_one, hx]; simp
theorem Half.end1 {r : Rn} {m : List Rn} {i : Nat} {o : List Rn} (h : Half r m i o true) (hi : m.length ≤ i) : o = putR r m := by
  rcases h with ⟨_, h⟩ | ⟨h, _⟩
  · rw [List.drop_of_length_le hi, List.append_nil] at h; exact h
  · cases h
theorem Half.end0 {r : Rn} {m : List Rn} {i : Nat} {o : List Rn} (h : Half r m i o false) (hi : m.length ≤ i) : o ++ [r] = putR r m := by
  rcases h with ⟨h, _⟩ | ⟨_, rfl, h⟩
  · cases h
  · rw [List.drop_of_length_le hi] at h; exact h

set_option maxHeartbeats 2000000 in
theorem put_list {w : World} {a : Option Addr} {cap : Nat} {m : List Rn} (h : Rs w a cap m) (hl : m.length ≤ 512) (r : Rn) :
    Calls Try.prog 18 #[.slice a m.length cap, .agg (rnA r)] w fun e w' => ∃ a' cap', e = .returned (.slice a' (putR r m).length cap') ∧ Rr w w' a' cap' (putR r m) := by
  have K1 : Keep (fun _ => False) w (w.alloc (.cells (rnA r) 31)) := (Keep.refl _ _).alloc _
  have L1 := Lrn.new w r
  have h1 := h.more K1
  have R1 := Rr.nil (w.alloc (.cells (rnA r) 31))
  have hl' : Hid (m.length ≤ 512) := hl
  have d0 : (m.length : Int) ≤ 9223372036854775807 := by omega
  have d1 : m.length ≤ cap := h.1
  have hz := K1.size
  rw [rnA_lit] at K1 L1 h1 R1 hz ⊢
  clear hl h
  go_enter Try.func18, Try.ntmps18
  go_wp2_with fail
  generalize w.alloc (.cells #[.int .i64 r.lba, .int .i64 r.len, .int .i64 r.phys] 31) = w1 at K1 L1 h1 R1 hz ⊢
  generalize w.heap.size = B at L1 hz ⊢
  go_loopw [5, 6, 7] (fun c d i wr => ∃ (q : Nat) (o : List Rn) (a' : Option Addr) (cap' : Nat) (b : Bool), q ≤ m.length ∧ c = .slice a' o.length cap' ∧ d = .bool b ∧ i = .int .i64 (q : Int) ∧ Half r m q o b ∧ o.length ≤ q + 1 ∧ Rr w1 wr a' cap' o) (fun _ _ i _ => m.length - (intOf i).toNat)
  case atStart => exact ⟨0, [], none, 0, false, by omega, rfl, rfl, rfl, Half.start r m, by simp, R1⟩
  case round =>
    obtain ⟨q, o, a', cap', b, hq, rfl, rfl, rfl, hH, hol, hR⟩ := hrel
    clear R1
    by_cases hlt : q < m.length
    · have dq : (q : Int) < (m.length : Int) := by omega
      have dq1 : IntKind.i64.wrap ((q : Int) + 1) = (q : Int) + 1 := by have : m.length ≤ 512 := hl'; rw [IntKind.wrap_i64]; omega
      obtain ⟨x, hx⟩ := get_rn hlt
      have hlt' : Hid (q < m.length) := hlt
      have hH' : Hid (Half r m q o b) := hH
      have hol' : Hid (o.length ≤ q + 1) := hol
      have hx' : Hid (m[q]? = some x) := hx
      clear hlt hH hol hx
      have hRq := fun n => hR.more ((Keep.refl (fun _ => False) wr).drewN n)
      have hcs : ∀ w2, Keep (fun _ => False) w1 w2 → ∃ g, a = some ⟨g, 0, none⟩ ∧ w2.cell? ⟨g, q * 3, none⟩ = some (.int .i64 x.lba) ∧ w2.cell? ⟨g, q * 3 + 1, none⟩ = some (.int .i64 x.len) ∧ w2.cell? ⟨g, q * 3 + 2, none⟩ = some (.int .i64 x.phys) := fun w2 hk => (h1.more hk).at hx'
      obtain ⟨g, rfl, -⟩ := hcs w1 (Keep.refl _ _)
      have hcs' : ∀ w2, Keep (fun _ => False) w1 w2 → w2.cell? ⟨g, q * 3, none⟩ = some (.int .i64 x.lba) ∧ w2.cell? ⟨g, q * 3 + 1, none⟩ = some (.int .i64 x.len) ∧ w2.cell? ⟨g, q * 3 + 2, none⟩ = some (.int .i64 x.phys) := fun w2 hk => by
        obtain ⟨g', e, hc⟩ := hcs w2 hk
        simp only [Option.some.injEq, Addr.mk.injEq, and_true] at e
        subst e; exact hc
      have hbs : ∀ w2, Keep (fun _ => False) w1 w2 → w2.cell? ⟨B, 0, none⟩ = some (.int .i64 r.lba) ∧ w2.cell? ⟨B, 1, none⟩ = some (.int .i64 r.len) ∧ w2.cell? ⟨B, 2, none⟩ = some (.int .i64 r.phys) := fun w2 hk => ⟨((L1.more hk) 0 (by omega)).1, ((L1.more hk) 1 (by omega)).1, ((L1.more hk) 2 (by omega)).1⟩
      obtain ⟨x0, x1, x2⟩ := hcs' wr hR.keep
      obtain ⟨y0, y1, y2⟩ := hbs wr hR.keep
      clear hcs
      cases b with
      | true =>
        go_wp2_with fail
        go_quiet (fail)
        have hRn := hRq nq
        generalize wr.drewN nq = w3 at hRn ⊢
        clear x0 x1 x2 y0 y1 y2
        obtain ⟨x0, x1, x2⟩ := hcs' w3 hRn.keep
        obtain ⟨a4, cap4, w4, happ, R4⟩ := hRn.app1 (by have : o.length ≤ q + 1 := hol'; have : m.length ≤ 512 := hl'; omega) x
        have hH4 := Half.more (show Half r m q o true from hH') (show m[q]? = some x from hx')
        have hH5 : Hid (Half r m (q + 1) (o ++ [x]) true) := hH4
        clear hH4 hRq hR hRn hcs' hbs
        go_wp2_with (at_builtin; refine wpList_append_run rfl (.tmp 30) (.tmp 35) 40 rfl (by rfl) (by rfl) happ ?_)
        go_roundw
        case rel => exact ⟨q + 1, o ++ [x], a4, cap4, true, hlt', by simp, rfl, by go_num, hH5, by have : o.length ≤ q + 1 := hol'; simp; omega, R4⟩
        case measure => have : q < m.length := hlt'; simp [intOf]; omega
      | false =>
        by_cases e : r.lba < x.lba
        · go_wp2_with fail
          go_quiet (fail)
          have hRn := hRq nq
          generalize wr.drewN nq = w3 at hRn ⊢
          clear x0 x1 x2 y0 y1 y2
          obtain ⟨y0, y1, y2⟩ := hbs w3 hRn.keep
          obtain ⟨a4, cap4, w4, happ, R4⟩ := hRn.app1 (by have : o.length ≤ q + 1 := hol'; have : m.length ≤ 512 := hl'; omega) r
          obtain ⟨x0, x1, x2⟩ := hcs' w4 R4.keep
          obtain ⟨a5, cap5, w5, happ5, R5⟩ := R4.app1 (by have : o.length ≤ q + 1 := hol'; have : m.length ≤ 512 := hl'; simp; omega) x
          have hH4 := Half.put (show Half r m q o false from hH') (show m[q]? = some x from hx') e
          have hH5 : Hid (Half r m (q + 1) (o ++ [r] ++ [x]) true) := hH4
          rw [List.length_append, List.length_singleton] at happ5
          clear hH4 hRq hR hRn hcs' hbs R4
          go_wp2_with (first | (at_builtin; refine wpList_append_run rfl (.tmp 26) (.tmp 28) 40 rfl (by rfl) (by rfl) happ ?_) | (at_builtin; refine wpList_append_run rfl (.tmp 30) (.tmp 35) 40 rfl (by rfl) (by rfl) happ5 ?_))
          go_roundw
          case rel => exact ⟨q + 1, o ++ [r] ++ [x], a5, cap5, true, hlt', by simp, rfl, by go_num, hH5, by have : Half r m q o false := hH'; rcases this with ⟨h, _⟩ | ⟨_, rfl, _⟩; cases h; simp; omega, R5⟩
          case measure => have : q < m.length := hlt'; simp [intOf]; omega
        · go_wp2_with fail
          go_quiet (fail)
          have hRn := hRq nq
          generalize wr.drewN nq = w3 at hRn ⊢
          clear x0 x1 x2 y0 y1 y2
          obtain ⟨x0, x1, x2⟩ := hcs' w3 hRn.keep
          obtain ⟨a4, cap4, w4, happ, R4⟩ := hRn.app1 (by have : o.length ≤ q + 1 := hol'; have : m.length ≤ 512 := hl'; omega) x
          have hH4 := Half.past (show Half r m q o false from hH') (show m[q]? = some x from hx') (by omega)
          have hH5 : Hid (Half r m (q + 1) (o ++ [x]) false) := hH4
          clear hH4 hRq hR hRn hcs' hbs
          go_wp2_with (at_builtin; refine wpList_append_run rfl (.tmp 30) (.tmp 35) 40 rfl (by rfl) (by rfl) happ ?_)
          go_roundw
          case rel => exact ⟨q + 1, o ++ [x], a4, cap4, false, hlt', by simp, rfl, by go_num, hH5, by have : o.length ≤ q + 1 := hol'; simp; omega, R4⟩
          case measure => have : q < m.length := hlt'; simp [intOf]; omega
    · have dq : ¬ (q : Int) < (m.length : Int) := by omega
      cases b with
      | true =>
        have he := hH.end1 (by omega)
        subst he
        have R9 : Rr w wr a' cap' (putR r m) := ⟨⟨hR.own.1, hR.own.2.imp id (by rintro ⟨g, c, cur, e, hb, hr⟩; exact ⟨g, c, cur, e, Nat.le_trans K1.size hb, hr⟩)⟩, K1.trans hR.keep⟩
        clear hH hR hlt hol
        go_wp2_with fail
        go_ret
        exact ⟨a', cap', rfl, R9⟩
      | false =>
        have he := hH.end0 (by omega)
        have y0 := ((L1.more hR.keep) 0 (by omega)).1
        have y1 := ((L1.more hR.keep) 1 (by omega)).1
        have y2 := ((L1.more hR.keep) 2 (by omega)).1
        simp only [rcell] at y0 y1 y2
        obtain ⟨a4, cap4, w4, happ, R4⟩ := hR.app1 (by have : m.length ≤ 512 := hl'; omega) r
        have R9 : Rr w w4 a4 cap4 (o ++ [r]) := ⟨⟨R4.own.1, R4.own.2.imp id (by rintro ⟨g, c, cur, e, hb, hr⟩; exact ⟨g, c, cur, e, Nat.le_trans K1.size hb, hr⟩)⟩, K1.trans R4.keep⟩
        rw [he] at R9
        have hle : Hid (o.length + 1 = (putR r m).length) := by show o.length + 1 = (putR r m).length; rw [← he]; simp
        clear hH hR hlt hol R4 he
        go_wp2_with (at_builtin; refine wpList_append_run rfl (.tmp 39) (.tmp 41) 40 rfl (by rfl) (by rfl) happ ?_)
        go_ret
        exact ⟨a4, cap4, congrArg (fun z => Ending.returned (.slice a4 z cap4)) hle, R9⟩
end Tg
end Go.Proofs.Ytnipckcpnbdhhaa
