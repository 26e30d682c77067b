/-
  The statement's own list of runs in memory: read, and what at and same answer.
-/
import Derived.Test.YtnipckcpnbdhhaaAwake
import Derived.Laws.AppendOwn
import Derived.Laws.OwnMore
namespace Go.Proofs.Ytnipckcpnbdhhaa
open Go.ChangeShapes Go.WideShapes Go.ChangeAt Go.RowKit
namespace Tg

/-- A list of runs that can be read. -/
def Rs (w : World) (a : Option Addr) (cap : Nat) (m : List Rn) : Prop :=
  m.length ≤ cap ∧ cap ≤ 9223372036854775807 ∧ (m = [] ∨ ∃ g, a = some ⟨g, 0, none⟩ ∧ ∀ j u, (rcells m)[j]? = some u → w.cell? ⟨g, j, none⟩ = some u)
theorem Rs.keep {S : Nat → Prop} {w w' : World} {a : Option Addr} {cap : Nat} {m : List Rn} (h : Rs w a cap m) (k : Keep S w w') (hs : ∀ g, a = some ⟨g, 0, none⟩ → ¬ S g) : Rs w' a cap m := by
  obtain ⟨h1, h2, h3⟩ := h
  refine ⟨h1, h2, h3.imp id ?_⟩
  rintro ⟨g, rfl, hc⟩
  refine ⟨g, rfl, fun j u hu => ?_⟩
  have := hc j u hu
  rw [← this]
  exact World.cell?_of_block (w := w) (a := ⟨g, j, none⟩) (k.block g (World.block_lt_of_cell? w _ this) (hs g rfl))
theorem Rs.more {w w' : World} {a : Option Addr} {cap : Nat} {m : List Rn} (h : Rs w a cap m) (k : Keep (fun _ => False) w w') : Rs w' a cap m := h.keep k (fun _ _ e => e)
/-- What is read of the run at a place. -/
theorem Rs.at {w : World} {a : Option Addr} {cap : Nat} {m : List Rn} (h : Rs w a cap m) {i : Nat} {x : Rn} (hx : m[i]? = some x) :
    ∃ g, a = some ⟨g, 0, none⟩ ∧ w.cell? ⟨g, i * 3, none⟩ = some (.int .i64 x.lba) ∧ w.cell? ⟨g, i * 3 + 1, none⟩ = some (.int .i64 x.len) ∧ w.cell? ⟨g, i * 3 + 2, none⟩ = some (.int .i64 x.phys) := by
  rcases h.2.2 with rfl | ⟨g, rfl, hc⟩
  · simp at hx
  · exact ⟨g, rfl, hc (i * 3 + 0) _ (by rw [rcells_at hx 0 (by omega)]; rfl), hc (i * 3 + 1) _ (by rw [rcells_at hx 1 (by omega)]; rfl), hc (i * 3 + 2) _ (by rw [rcells_at hx 2 (by omega)]; rfl)⟩
theorem get_rn {m : List Rn} {i : Nat} (h : i < m.length) : ∃ x, m[i]? = some x := ⟨_, List.getElem?_eq_getElem h⟩

/-- The place of a run in a list: -1, or where the first one with that Lba is. -/
def atL (v : Int) (m : List Rn) : Int := match m.findIdx? (fun x => x.lba = v) with
  | some i => (i : Int)
  | none => -1
theorem atL_no {v : Int} {m : List Rn} (h : ∀ x ∈ m, x.lba ≠ v) : atL v m = -1 := by
  have : m.findIdx? (fun x => x.lba = v) = none := by rw [List.findIdx?_eq_none_iff]; intro x hx; simpa using h x hx
  simp [atL, this]
theorem atL_yes {v : Int} {m : List Rn} {i : Nat} {x : Rn} (hx : m[i]? = some x) (e : x.lba = v) (h : ∀ y ∈ m.take i, y.lba ≠ v) : atL v m = (i : Int) := by
  have hi := (List.getElem?_eq_some_iff.1 hx).1
  have : m.findIdx? (fun x => x.lba = v) = some i := by
    rw [List.findIdx?_eq_some_iff_getElem]
    refine ⟨hi, by simp [(List.getElem?_eq_some_iff.1 hx).2, e], fun j hj => ?_⟩
    have := h m[j] (List.mem_take_iff_getElem.2 ⟨j, by omega, rfl⟩)
    simpa using this
  simp [atL, this]

set_option maxHeartbeats 1000000 in
theorem at_any {w : World} {a : Option Addr} {cap : Nat} {m : List Rn} (h : Rs w a cap m) (hl : m.length ≤ 512) (v : Int) :
    Calls Try.prog 17 #[.slice a m.length cap, .int .i64 v] w fun e w' => e = .returned (.int .i64 (atL v m)) ∧ w' = w := by
  have hl' : Hid (m.length ≤ 512) := hl
  have d0 : (m.length : Int) ≤ 9223372036854775807 := by omega
  have d1 : m.length ≤ cap := h.1
  clear hl
  go_enter Try.func17, Try.ntmps17
  go_wp2_with fail
  go_loopw [5] (fun c wr => ∃ i : Nat, i ≤ m.length ∧ c = .int .i64 (i : Int) ∧ (∀ y ∈ m.take i, y.lba ≠ v) ∧ w = wr) (fun c _ => m.length - (intOf c).toNat)
  case atStart => exact ⟨0, by omega, rfl, by simp, rfl⟩
  case round =>
    obtain ⟨i, hi, rfl, hall, rfl⟩ := hrel
    have hall' : Hid (∀ y ∈ m.take i, y.lba ≠ v) := hall
    clear hall
    by_cases hlt : i < m.length
    · have di : (i : Int) < (m.length : Int) := by omega
      have di1 : IntKind.i64.wrap ((i : Int) + 1) = (i : Int) + 1 := by have : m.length ≤ 512 := hl'; rw [IntKind.wrap_i64]; omega
      obtain ⟨x, hx⟩ := get_rn hlt
      obtain ⟨g, rfl, c0, c1, c2⟩ := h.at hx
      have htk : Hid (m.take (i + 1) = m.take i ++ [x]) := by show m.take (i + 1) = m.take i ++ [x]; rw [List.take_add_one, hx]; rfl
      have hlt' : Hid (i < m.length) := hlt
      by_cases e : x.lba = v
      · have d2 : (x.lba == v) = true := by simp [e]
        have hat := atL_yes hx e hall'
        clear e hx h hlt
        go_wp2_with fail
        go_ret
        exact ⟨by rw [hat]; rfl, rfl⟩
      · have d2 : (x.lba == v) = false := by simp [e]
        have e' : Hid (¬ x.lba = v) := e
        clear e hx h hlt
        go_wp2_with fail
        go_roundw
        case rel =>
          refine ⟨i + 1, hlt', by go_num, ?_, trivial⟩
          rw [(show m.take (i + 1) = m.take i ++ [x] from htk)]
          intro y hy
          rcases List.mem_append.1 hy with hy | hy
          · exact hall' y hy
          · simp at hy; subst hy; exact e'
        case measure => have : i < m.length := hlt'; simp [intOf]; omega
    · have di : ¬ (i : Int) < (m.length : Int) := by omega
      have hat : atL v m = -1 := atL_no (fun x hx => hall' x (by rw [List.take_of_length_le (by omega)]; exact hx))
      clear hlt h
      go_wp2_with fail
      go_ret
      exact ⟨rfl, rfl⟩

/-- An index and what stands there. -/
def Idx (m : List Rn) (k : Int) (o : Option Rn) : Prop := (k = -1 ∧ o = none) ∨ ∃ (i : Nat) (x : Rn), k = (i : Int) ∧ m[i]? = some x ∧ o = some x

set_option maxHeartbeats 1000000 in
theorem same_any {w : World} {a : Option Addr} {cap : Nat} {m : List Rn} (h : Rs w a cap m) {k : Int} {o : Option Rn} (hk : Idx m k o) :
    Calls Try.prog 34 #[.slice a m.length cap, .int .i64 k, .agg (rnA (o.getD rn0)), .bool o.isSome] w fun e w' => e = .returned (.bool true) ∧ Keep (fun _ => False) w w' := by
  have K1 : Keep (fun _ => False) w (w.alloc (.cells (rnA (o.getD rn0)) 31)) := (Keep.refl _ _).alloc _
  rcases hk with ⟨rfl, rfl⟩ | ⟨i, x, rfl, hx, rfl⟩
  · rw [show (none : Option Rn).getD rn0 = rn0 from rfl, rn0_lit] at K1
    rw [show (none : Option Rn).getD rn0 = rn0 from rfl, rn0_lit]
    clear h
    go_enter Try.func34, Try.ntmps34
    go_wp2_with fail
    go_ret
    exact ⟨rfl, K1⟩
  · have hi := (List.getElem?_eq_some_iff.1 hx).1
    obtain ⟨g, rfl, c0, c1, c2⟩ := (h.more K1).at hx
    have L1 := Lrn.new w x
    have q0 : (w.alloc (.cells (rnA x) 31)).cell? ⟨w.heap.size, 0, none⟩ = some (.int .i64 x.lba) := (L1 0 (by omega)).1
    rw [show (some x).getD rn0 = x from rfl, rnA_lit] at K1 c0 c1 c2
    rw [show (some x).getD rn0 = x from rfl, rnA_lit]
    have di : (i : Int) < (m.length : Int) := by omega
    have di0 : ¬ (i : Int) < 0 := by omega
    clear h L1 q0
    go_enter Try.func34, Try.ntmps34
    go_wp2_with fail
    go_quiet (fail)
    go_wp2_with fail
    go_ret
    exact ⟨rfl, K1.drewN _⟩

/-- A list of runs of one's own, in memory made since w0. -/
structure Rr (w0 w : World) (a : Option Addr) (cap : Nat) (m : List Rn) : Prop where
  own : w.ownsRow w0.heap.size 31 3 (.slice a m.length cap) m.length (rcells m)
  keep : Keep (fun _ => False) w0 w

theorem Rr.nil (w : World) : Rr w w none 0 [] := ⟨World.ownsRow_nil _ _ _ _, Keep.refl _ _⟩
theorem Rr.more {w0 w w' : World} {a : Option Addr} {cap : Nat} {m : List Rn} (h : Rr w0 w a cap m) (k : Keep (fun _ => False) w w') : Rr w0 w' a cap m := by
  refine ⟨⟨h.own.1, h.own.2.imp id ?_⟩, h.keep.trans k⟩
  rintro ⟨g, c, cur, e, hb, hh, h1, h2, h3, h4⟩
  exact ⟨g, c, cur, e, hb, by rw [k.block g (by by_cases hg : g < w.heap.size; exact hg; simp [Array.getElem?_eq_none (Nat.le_of_not_lt hg)] at hh) (fun e => e)]; exact hh, h1, h2, h3, h4⟩
theorem Rr.other {S : Nat → Prop} {w0 w w' : World} {a : Option Addr} {cap : Nat} {m : List Rn} (h : Rr w0 w a cap m) (k : Keep S w w') (hs : ∀ g, a = some ⟨g, 0, none⟩ → ¬ S g) (h0 : ∀ x, S x → w0.heap.size ≤ x) : Rr w0 w' a cap m := by
  refine ⟨⟨h.own.1, h.own.2.imp id ?_⟩, h.keep.next k (fun x hx e => by have := h0 x e; omega)⟩
  rintro ⟨g, c, cur, e, hb, hh, h1, h2, h3, h4⟩
  injection e with e1 e2 e3
  exact ⟨g, c, cur, by rw [e1, e3], hb, by rw [k.block g (by by_cases hg : g < w.heap.size; exact hg; simp [Array.getElem?_eq_none (Nat.le_of_not_lt hg)] at hh) (hs g e1)]; exact hh, h1, h2, h3, h4⟩
theorem Rr.block {w0 w : World} {a : Option Addr} {cap : Nat} {m : List Rn} (h : Rr w0 w a cap m) {g : Nat} (e : a = some ⟨g, 0, none⟩) : w0.heap.size ≤ g ∧ g < w.heap.size := by
  have := h.own.lt g (by rw [e]; rfl)
  exact this
theorem Rr.rs {w0 w : World} {a : Option Addr} {cap : Nat} {m : List Rn} (h : Rr w0 w a cap m) : Rs w a cap m := by
  obtain ⟨h1, h2⟩ := h.own
  rcases h2 with ⟨e, hn⟩ | ⟨g, c, cur, e, hb, hh, hn, hm, hs, ht⟩
  · injection e with e1 e2 e3
    exact ⟨by omega, by omega, Or.inl (List.eq_nil_of_length_eq_zero hn)⟩
  · injection e with e1 e2 e3
    subst e1 e3
    unfold maxLen at hm
    refine ⟨hn, by omega, Or.inr ⟨g, rfl, fun j u hu => ?_⟩⟩
    have := h.own.cells (g := g) rfl j u hu
    rwa [Addr.add_lit, Nat.zero_add] at this
theorem keep_grown {w w' : World} {row : Option Nat} (h : w.grownBy w' row) : Keep (fun x => some x = row) w w' := ⟨h.os, h.tape, h.output, h.size, fun k hk hs => h.block k hk hs⟩
theorem Rr.appN {w0 w : World} {a : Option Addr} {cap : Nat} {m : List Rn} (h : Rr w0 w a cap m) (x : Addr) (c : Nat) (ns : List Rn) (hl : m.length + ns.length ≤ 1000000) (hnews : ∀ j u, (rcells ns)[j]? = some u → w.cell? (x.add j) = some u) :
    ∃ a' cap' w', (Builtin.append_ #[40, 40] 40 #[.slice a m.length cap, .slice (some x) ns.length c]).run Try.prog w = .ok (.slice a' (m.length + ns.length) cap') w' ∧ Rr w0 w' a' cap' (m ++ ns) ∧ Keep (fun b => w0.heap.size ≤ b) w w' := by
  obtain ⟨i, hi, hz0, hz1, hz2⟩ := info_parts info31
  have hs := h.keep.size
  obtain ⟨v', w', hrun, hown, hgrow, hnil⟩ := run_append_own (P := Try.prog) w w0.heap.size 40 40 31 i _ 3 24 Try.underlying40 hi hz0 hz1 hz2 rfl (by decide) (.slice a m.length cap) m.length (rcells m) h.own
    x ns.length c (rcells ns) (rcells_len ns) hnews (by intro u hu; obtain ⟨y, _, hy⟩ := List.mem_flatMap.1 hu; simp [rcs] at hy; rcases hy with rfl | rfl | rfl <;> rfl) (by unfold maxLen; omega) (by omega) hs
  have hk : Keep (fun b => w0.heap.size ≤ b) w w' := (keep_grown hgrow).mono (fun b _ e => (h.own.lt b e.symm).1)
  have hK : Keep (fun _ => False) w0 w' := h.keep.next hk (fun y hy e => by omega)
  rw [← rcells_app, ← List.length_append] at hown
  have hshape : ∃ a' cap', v' = .slice a' (m ++ ns).length cap' := by
    rcases hown.2 with ⟨e, hn⟩ | ⟨g, c', cur, e, -⟩
    · exact ⟨none, 0, by rw [hn]; exact e⟩
    · exact ⟨_, _, e⟩
  obtain ⟨a', cap', rfl⟩ := hshape
  exact ⟨a', cap', w', by rw [hrun, List.length_append], ⟨hown, hK⟩, hk⟩
theorem Rr.app1 {w0 w : World} {a : Option Addr} {cap : Nat} {m : List Rn} (h : Rr w0 w a cap m) (hl : m.length ≤ 100000) (x : Rn) :
    ∃ a' cap' w', (Builtin.append_ #[40, 40] 40 #[.slice a m.length cap, .slice (some ⟨w.heap.size, 0, none⟩) 1 1]).run Try.prog (w.alloc (.cells #[.int .i64 x.lba, .int .i64 x.len, .int .i64 x.phys] 31)) = .ok (.slice a' (m.length + 1) cap') w' ∧ Rr w0 w' a' cap' (m ++ [x]) := by
  obtain ⟨a', cap', w', h1, h2, -⟩ := (h.more ((Keep.refl (fun _ => False) w).alloc (.cells #[.int .i64 x.lba, .int .i64 x.len, .int .i64 x.phys] 31))).appN ⟨w.heap.size, 0, none⟩ 1 [x] (by simp; omega) (fun j u hu => cells_new w _ 31 j u (by simpa [rcells, rcs] using hu))
  exact ⟨a', cap', w', h1, h2⟩

/-- A list with one run more, ahead of the first that is greater. -/
def putR (r : Rn) : List Rn → List Rn
  | [] => [r]
  | y :: m => if r.lba < y.lba then r :: y :: m else y :: putR r m
theorem putR_len (r : Rn) : ∀ m : List Rn, (putR r m).length = m.length + 1
  | [] => rfl
  | y :: m => by rw [putR]; split <;> simp [putR_len r m]
theorem putL_runs (n : Nat) (r : Rn) : ∀ m : List (Nat × Rn), (Tr.putL n r m).map (·.2) = putR r (m.map (·.2))
  | [] => rfl
  | y :: m => by
    rw [Tr.putL, List.map_cons, putR]
    split
    · rfl
    · rw [List.map_cons, putL_runs n r m]
end Tg
end Go.Proofs.Ytnipckcpnbdhhaa
