/-
  A list of calls as an argument: each is four cells.
-/
import Derived.Test.YtnipckcpnbdhhaaPutW
import Derived.Test.YtnipckcpnbdhhaaAskedW
import Derived.Test.YtnipckcpnbdhhaaWholeW
import Derived.Test.YtnipckcpnbdhhaaHighM
import Derived.Deep.Slices
namespace Go.Proofs.Ytnipckcpnbdhhaa
open Go.ChangeShapes Go.WideShapes Go.ChangeAt Go.RowKit
namespace Tg

theorem cells42 : Try.prog.cellsOf 42 = 4 := by kernel_rfl
theorem cells3 : Try.prog.cellsOf 3 = 1 := by kernel_rfl
def act4 (a0 a1 a2 a3 : Int) (j : Nat) : Int := if j = 0 then a0 else if j = 1 then a1 else if j = 2 then a2 else a3

theorem act_of_trod {H : Type} {enc : TypeId × Value → H} {w : World} {base fuel : Nat} {spare : Nat → Bool} {held : Bool} {cs : List Value} {x : DataW H × List MemPlace}
    (h : DataW.trod enc Try.prog w base spare held fuel 42 cs = some x) :
    ∃ a : Nat → Int, cs = [.int .i64 (a 0), .int .i64 (a 1), .int .i64 (a 2), .int .i64 (a 3)] := by
  obtain ⟨xs, n, rfl, _, hl, hxl, hf⟩ := DataW.trod_struct Try.underlying42 h
  rw [cells42] at hl
  obtain ⟨v0, v1, v2, v3, rfl⟩ : ∃ v0 v1 v2 v3, cs = [v0, v1, v2, v3] := by
    match cs, hl with
    | [v0, v1, v2, v3], _ => exact ⟨v0, v1, v2, v3, rfl⟩
  have hx : ∀ i, i < 4 → ∃ y, xs[i]? = some y := fun i hi => ⟨xs[i]'(by rw [hxl]; exact hi), List.getElem?_eq_getElem _⟩
  obtain ⟨y0, e0⟩ := hx 0 (by omega)
  obtain ⟨y1, e1⟩ := hx 1 (by omega)
  obtain ⟨y2, e2⟩ := hx 2 (by omega)
  obtain ⟨y3, e3⟩ := hx 3 (by omega)
  have k0 : DataW.trod enc Try.prog w base spare held n 3 (List.take (Try.prog.cellsOf 3) (List.drop 0 [v0, v1, v2, v3])) = xs[0]? := hf 0 _ rfl
  have k1 : DataW.trod enc Try.prog w base spare held n 3 (List.take (Try.prog.cellsOf 3) (List.drop 1 [v0, v1, v2, v3])) = xs[1]? := hf 1 _ rfl
  have k2 : DataW.trod enc Try.prog w base spare held n 3 (List.take (Try.prog.cellsOf 3) (List.drop 2 [v0, v1, v2, v3])) = xs[2]? := hf 2 _ rfl
  have k3 : DataW.trod enc Try.prog w base spare held n 3 (List.take (Try.prog.cellsOf 3) (List.drop 3 [v0, v1, v2, v3])) = xs[3]? := hf 3 _ rfl
  rw [e0, cells3] at k0
  rw [e1, cells3] at k1
  rw [e2, cells3] at k2
  rw [e3, cells3] at k3
  obtain ⟨n0, q0, _, w0⟩ := DataW.trod_int Try.underlying3 k0
  obtain ⟨n1, q1, _, w1⟩ := DataW.trod_int Try.underlying3 k1
  obtain ⟨n2, q2, _, w2⟩ := DataW.trod_int Try.underlying3 k2
  obtain ⟨n3, q3, _, w3⟩ := DataW.trod_int Try.underlying3 k3
  simp at q0 q1 q2 q3
  subst q0 q1 q2 q3
  exact ⟨act4 n0 n1 n2 n3, rfl⟩

theorem cells_get {w : World} {base : Nat} {a : Addr} {n : Nat} {cs : List Value} (h : w.cells? base a n = some cs) : ∀ i, i < n → w.cell? (a.add i) = cs[i]? := by
  unfold World.cells? at h
  split at h
  · intro i hi
    have := mapM_some_get h i i (by simp [hi])
    exact this
  · cases h

/-- A list of calls in memory. -/
def Acts (W : World) (a : Option Addr) (len cap : Nat) : Prop :=
  len ≤ cap ∧ cap ≤ 9223372036854775807 ∧ (len = 0 ∨ ∃ b o, a = some ⟨b, o, none⟩ ∧ ∀ i, i < len → ∃ f : Nat → Int, ∀ j, j < 4 → W.cell? ⟨b, o + i * 4 + j, none⟩ = some (.int .i64 (f j)))
theorem four {j : Nat} (h : j < 4) : j = 0 ∨ j = 1 ∨ j = 2 ∨ j = 3 := by omega

/-- An argument that is a list of calls. -/
theorem open_acts {H : Type} {enc : TypeId × Value → H} {W : World} {a : Option Addr} {len cap : Nat} {d : DataW H} {p : List MemPlace}
    (h : DataW.Trod enc Try.prog W 0 (fun _ => true) true 39 (.slice a len cap) d p) : Acts W a len cap := by
  obtain ⟨fuel, hf⟩ := h
  rcases Deep.open_slice Try.underlying39 hf with ⟨hcs, hx⟩ | ⟨ad, l, c, m, n, D, Pl, hcs, _, hl, hm, hmm, _, hi⟩
  · simp [Value.cells] at hcs
    obtain ⟨rfl, rfl, rfl⟩ := hcs
    exact ⟨by omega, by omega, Or.inl rfl⟩
  · simp [Value.cells] at hcs
    obtain ⟨rfl, rfl, rfl⟩ := hcs
    unfold maxLen at hm
    simp at hmm
    refine ⟨hl, by omega, ?_⟩
    by_cases h0 : len = 0
    · exact Or.inl h0
    · right
      obtain ⟨b, off, spot⟩ := ad
      have hall : ∀ i, i < len → ∃ f : Nat → Int, ∀ j, j < 4 → W.cell? (((⟨b, off, spot⟩ : Addr).add (i * 4)).add j) = some (.int .i64 (f j)) := by
        intro i hil
        obtain ⟨cs', hc, ht⟩ := hi i (by omega)
        rw [cells42] at hc
        obtain ⟨f, rfl⟩ := act_of_trod ht
        have g := cells_get hc
        refine ⟨f, fun j hj => ?_⟩
        rw [g j hj]
        rcases four hj with rfl | rfl | rfl | rfl <;> rfl
      have hspot : spot = none := by
        obtain ⟨f, h1⟩ := hall 0 (by omega)
        simpa [Addr.add] using World.cell?_spot (h1 0 (by omega))
      subst hspot
      refine ⟨b, off, rfl, fun i hil => ?_⟩
      obtain ⟨f, h1⟩ := hall i hil
      refine ⟨f, fun j hj => ?_⟩
      have := h1 j hj
      rwa [Addr.add_lit, Addr.add_lit] at this

theorem Acts.keep {S : Nat → Prop} {w w' : World} {a : Option Addr} {len cap : Nat} (h : Acts w a len cap) (k : Keep S w w') (hs : ∀ b o, a = some ⟨b, o, none⟩ → ¬ S b) : Acts w' a len cap := by
  obtain ⟨h1, h2, h3⟩ := h
  refine ⟨h1, h2, h3.imp id ?_⟩
  rintro ⟨b, o, rfl, hc⟩
  refine ⟨b, o, rfl, fun i hi => ?_⟩
  obtain ⟨f, hf⟩ := hc i hi
  refine ⟨f, fun j hj => ?_⟩
  have := hf j hj
  rw [← this]
  exact World.cell?_of_block (w := w) (a := ⟨b, o + i * 4 + j, none⟩) (k.block b (World.block_lt_of_cell? w _ this) (hs b o rfl))

/-- The tree beside the statement's own list. -/
structure Ps (w0 wr : World) (b p k N : Nat) (a : Option Addr) (cap : Nat) (m : List Rn) : Prop where
  tr : ∃ l t, Mt w0 wr b p k N l t ∧ t.runs = m
  row : Rr w0 wr a cap m
  ap : ∀ g, a = some ⟨g, 0, none⟩ → ¬ Own3 b p k g

theorem Ps.more {w0 wr w' : World} {b p k N : Nat} {a : Option Addr} {cap : Nat} {m : List Rn} (h : Ps w0 wr b p k N a cap m) (hk : Keep (fun _ => False) wr w') : Ps w0 w' b p k N a cap m := by
  obtain ⟨l, t, h1, h2⟩ := h.tr
  exact ⟨⟨l, t, h1.more hk, h2⟩, h.row.more hk, h.ap⟩
theorem Ps.len {w0 wr : World} {b p k N : Nat} {a : Option Addr} {cap : Nat} {m : List Rn} (h : Ps w0 wr b p k N a cap m) : m.length ≤ N := by
  obtain ⟨l, t, h1, h2⟩ := h.tr
  have := h1.room
  rw [← h2, ← Tr.views_runs, List.length_map]; omega
theorem Ps.asked {w0 wr : World} {b p k N : Nat} {a : Option Addr} {cap : Nat} {m : List Rn} (h : Ps w0 wr b p k N a cap m) (hN : N ≤ 512) (v : Int) :
    Calls Try.prog 19 #[.pointer (some ⟨b, 0, none⟩), .slice a m.length cap, .int .i64 v] wr fun e w' => e = .returned (.bool true) ∧ Keep (fun _ => False) wr w' := by
  have hl := h.len
  obtain ⟨l, t, h1, rfl⟩ := h.tr
  exact asked_any h1 h.row.rs (by omega) v
theorem Ps.whole {w0 wr : World} {b p k N : Nat} {a : Option Addr} {cap : Nat} {m : List Rn} (h : Ps w0 wr b p k N a cap m) (hN : N ≤ 512) :
    Calls Try.prog 20 #[.pointer (some ⟨b, 0, none⟩), .pointer (some ⟨p, 0, none⟩), .slice a m.length cap] wr fun e w' => e = .returned (.bool true) ∧ Keep (fun _ => False) wr w' := by
  have hl := h.len
  obtain ⟨l, t, h1, rfl⟩ := h.tr
  exact whole_any h1 h.row.rs (by omega)
theorem Ps.at {w0 wr : World} {b p k N : Nat} {a : Option Addr} {cap : Nat} {m : List Rn} (h : Ps w0 wr b p k N a cap m) (hN : N ≤ 512) (v : Int) :
    Calls Try.prog 17 #[.slice a m.length cap, .int .i64 v] wr fun e w' => e = .returned (.int .i64 (atL v m)) ∧ w' = wr := by
  have hl := h.len
  exact at_any h.row.rs (by omega) v
/-- Where a run is, and where not. -/
theorem at_split {t : Tr} (ho : t.Ord) (v : Int) : (t.idOf v = 0 → (∀ z ∈ t.ids, 1 ≤ z) → atL v t.runs = -1) ∧ (t.idOf v ≠ 0 → (∀ z ∈ t.ids, 1 ≤ z) → ∃ A x B, t.runs = A ++ x :: B ∧ x.lba = v ∧ atL v t.runs = (A.length : Int)) := by
  constructor
  · intro h0 h1
    refine atL_no (fun x hx e => ?_)
    exact (Tr.idOf_has (k := v) h1).1 ((Tr.has_runs ho).2 ⟨x, hx, e⟩) h0
  · intro h0 h1
    obtain ⟨x, hx, e⟩ := (Tr.has_runs ho).1 ((Tr.idOf_has (k := v) h1).2 h0)
    obtain ⟨A, B, hAB⟩ := List.append_of_mem hx
    refine ⟨A, x, B, hAB, e, atL_yes (x := x) (by rw [hAB]; simp) e (fun y hy => ?_)⟩
    have hup := Tr.ord_up.1 ho
    rw [hAB] at hup hy
    rw [List.take_left'  rfl] at hy
    have := (Tr.up_parts hup).2.2.1 y hy
    omega
theorem runs_del {t : Tr} (ho : t.Ord) {A B : List Rn} {x : Rn} (h : t.runs = A ++ x :: B) : (t.del x.lba).runs = A ++ B := by
  have hup := Tr.ord_up.1 ho
  rw [h] at hup
  obtain ⟨-, -, h3, h4⟩ := Tr.up_parts hup
  have e : (t.del x.lba).runs = t.runs.filter (fun y => y.lba != x.lba) := by
    unfold Tr.runs
    rw [Tr.del_seq _ t ho, Tr.cutL, List.filter_map]
    rfl
  rw [e, h, List.filter_append, List.filter_cons, if_neg (by simp), List.filter_eq_self.2 (fun y hy => by have := h3 y hy; simp; omega), List.filter_eq_self.2 (fun y hy => by have := h4 y hy; simp; omega)]
theorem runs_chg {t : Tr} (ho : t.Ord) {A B : List Rn} {x r : Rn} (h : t.runs = A ++ x :: B) (hx : x.lba = r.lba) : (t.chg r).runs = A ++ r :: B := by
  have hup := Tr.ord_up.1 ho
  rw [h] at hup
  obtain ⟨-, -, h3, h4⟩ := Tr.up_parts hup
  have e : (t.chg r).runs = t.runs.map (fun y => if y.lba = r.lba then r else y) := by
    unfold Tr.runs
    rw [Tr.chg_seq _ t ho, Tr.chgL, List.map_map, List.map_map]
    refine List.map_congr_left (fun z _ => ?_)
    simp only [Function.comp]
    split <;> rfl
  have hid : ∀ (m : List Rn), (∀ y ∈ m, y.lba ≠ r.lba) → m.map (fun y => if y.lba = r.lba then r else y) = m := fun m hm => by
    conv => rhs; rw [← List.map_id m]
    exact List.map_congr_left (fun z hz => by rw [if_neg (hm z hz)]; rfl)
  rw [e, h, List.map_append, List.map_cons, if_pos hx, hid A (fun y hy => by have := h3 y hy; omega), hid B (fun y hy => by have := h4 y hy; omega)]
theorem runs_ins {t : Tr} (ho : t.Ord) (n : Nat) (r : Rn) : (t.ins n r).runs = putR r t.runs := by
  unfold Tr.runs
  rw [Tr.ins_seq n r t ho, putL_runs]
end Tg
end Go.Proofs.Ytnipckcpnbdhhaa
