/-
  A list of calls as an argument: each is five cells.
-/
import Derived.Test.YtdeepmifolaenaaWhole
import Derived.Deep.Slices
namespace Go.Proofs.Ytdeepmifolaenaa
open Go.ChangeShapes Go.WideShapes Go.ChangeAt Go.RowKit
namespace Tg

theorem cells36 : Try.prog.cellsOf 36 = 5 := by kernel_rfl
theorem cells3 : Try.prog.cellsOf 3 = 1 := by kernel_rfl

def act5 (a0 a1 a2 a3 a4 : Int) (j : Nat) : Int := if j = 0 then a0 else if j = 1 then a1 else if j = 2 then a2 else if j = 3 then a3 else a4

theorem act_of_trod {H : Type} {enc : TypeId × Value → H} {w : World} {base fuel : Nat} {spare : Nat → Bool} {held : Bool} {cs : List Value} {x : DataW H × List MemPlace}
    (h : DataW.trod enc Try.prog w base spare held fuel 36 cs = some x) :
    ∃ a : Nat → Int, cs = [.int .i64 (a 0), .int .i64 (a 1), .int .i64 (a 2), .int .i64 (a 3), .int .i64 (a 4)] := by
  obtain ⟨xs, n, rfl, _, hl, hxl, hf⟩ := DataW.trod_struct Try.underlying36 h
  rw [cells36] at hl
  obtain ⟨v0, v1, v2, v3, v4, rfl⟩ : ∃ v0 v1 v2 v3 v4, cs = [v0, v1, v2, v3, v4] := by
    match cs, hl with
    | [v0, v1, v2, v3, v4], _ => exact ⟨v0, v1, v2, v3, v4, rfl⟩
  have hx : ∀ i, i < 5 → ∃ y, xs[i]? = some y := fun i hi => ⟨xs[i]'(by rw [hxl]; exact hi), List.getElem?_eq_getElem _⟩
  obtain ⟨y0, e0⟩ := hx 0 (by omega)
  obtain ⟨y1, e1⟩ := hx 1 (by omega)
  obtain ⟨y2, e2⟩ := hx 2 (by omega)
  obtain ⟨y3, e3⟩ := hx 3 (by omega)
  obtain ⟨y4, e4⟩ := hx 4 (by omega)
  have k0 : DataW.trod enc Try.prog w base spare held n 3 (List.take (Try.prog.cellsOf 3) (List.drop 0 [v0, v1, v2, v3, v4])) = xs[0]? := hf 0 _ rfl
  have k1 : DataW.trod enc Try.prog w base spare held n 3 (List.take (Try.prog.cellsOf 3) (List.drop 1 [v0, v1, v2, v3, v4])) = xs[1]? := hf 1 _ rfl
  have k2 : DataW.trod enc Try.prog w base spare held n 3 (List.take (Try.prog.cellsOf 3) (List.drop 2 [v0, v1, v2, v3, v4])) = xs[2]? := hf 2 _ rfl
  have k3 : DataW.trod enc Try.prog w base spare held n 3 (List.take (Try.prog.cellsOf 3) (List.drop 3 [v0, v1, v2, v3, v4])) = xs[3]? := hf 3 _ rfl
  have k4 : DataW.trod enc Try.prog w base spare held n 3 (List.take (Try.prog.cellsOf 3) (List.drop 4 [v0, v1, v2, v3, v4])) = xs[4]? := hf 4 _ rfl
  rw [e0, cells3] at k0
  rw [e1, cells3] at k1
  rw [e2, cells3] at k2
  rw [e3, cells3] at k3
  rw [e4, cells3] at k4
  obtain ⟨n0, q0, _, w0⟩ := DataW.trod_int Try.underlying3 k0
  obtain ⟨n1, q1, _, w1⟩ := DataW.trod_int Try.underlying3 k1
  obtain ⟨n2, q2, _, w2⟩ := DataW.trod_int Try.underlying3 k2
  obtain ⟨n3, q3, _, w3⟩ := DataW.trod_int Try.underlying3 k3
  obtain ⟨n4, q4, _, w4⟩ := DataW.trod_int Try.underlying3 k4
  simp at q0 q1 q2 q3 q4
  subst q0 q1 q2 q3 q4
  exact ⟨act5 n0 n1 n2 n3 n4, rfl⟩

theorem cells_get {w : World} {base : Nat} {a : Addr} {n : Nat} {cs : List Value} (h : w.cells? base a n = some cs) : ∀ i, i < n → w.cell? (a.add i) = cs[i]? := by
  unfold World.cells? at h
  split at h
  · intro i hi
    have := mapM_some_get h i i (by simp [hi])
    exact this
  · cases h

/-- A list of calls in memory. -/
def Acts (W : World) (a : Option Addr) (len cap : Nat) : Prop :=
  len ≤ cap ∧ cap ≤ 9223372036854775807 ∧ (len = 0 ∨ ∃ b o, a = some ⟨b, o, none⟩ ∧ ∀ i, i < len → ∃ f : Nat → Int, ∀ j, j < 5 → W.cell? ⟨b, o + i * 5 + j, none⟩ = some (.int .i64 (f j)))

theorem five {j : Nat} (h : j < 5) : j = 0 ∨ j = 1 ∨ j = 2 ∨ j = 3 ∨ j = 4 := by omega

/-- An argument that is a list of calls. -/
theorem open_acts {H : Type} {enc : TypeId × Value → H} {W : World} {a : Option Addr} {len cap : Nat} {d : DataW H} {p : List MemPlace}
    (h : DataW.Trod enc Try.prog W 0 (fun _ => true) true 31 (.slice a len cap) d p) : Acts W a len cap := by
  obtain ⟨fuel, hf⟩ := h
  rcases Deep.open_slice Try.underlying31 hf with ⟨hcs, hx⟩ | ⟨ad, l, c, m, n, D, Pl, hcs, _, hl, hm, hmm, _, hi⟩
  · simp [Value.cells] at hcs
    obtain ⟨rfl, rfl, rfl⟩ := hcs
    exact ⟨by omega, by omega, Or.inl rfl⟩
  · simp [Value.cells] at hcs
    obtain ⟨rfl, rfl, rfl⟩ := hcs
    unfold maxLen at hm
    simp at hmm
    refine ⟨hl, by omega, ?_⟩
    by_cases h0 : len = 0
    · exact Or.inl h0
    · right
      obtain ⟨b, off, spot⟩ := ad
      have hall : ∀ i, i < len → ∃ f : Nat → Int, ∀ j, j < 5 → W.cell? (((⟨b, off, spot⟩ : Addr).add (i * 5)).add j) = some (.int .i64 (f j)) := by
        intro i hil
        obtain ⟨cs', hc, ht⟩ := hi i (by omega)
        rw [cells36] at hc
        obtain ⟨f, rfl⟩ := act_of_trod ht
        have g := cells_get hc
        refine ⟨f, fun j hj => ?_⟩
        rw [g j hj]
        rcases five hj with rfl | rfl | rfl | rfl | rfl <;> rfl
      have hspot : spot = none := by
        obtain ⟨f, h1⟩ := hall 0 (by omega)
        simpa [Addr.add] using World.cell?_spot (h1 0 (by omega))
      subst hspot
      refine ⟨b, off, rfl, fun i hil => ?_⟩
      obtain ⟨f, h1⟩ := hall i hil
      refine ⟨f, fun j hj => ?_⟩
      have := h1 j hj
      rwa [Addr.add_lit, Addr.add_lit] at this

theorem Acts.keep {S : Nat → Prop} {w w' : World} {a : Option Addr} {len cap : Nat} (h : Acts w a len cap) (k : Keep S w w') (hs : ∀ b o, a = some ⟨b, o, none⟩ → ¬ S b) : Acts w' a len cap := by
  obtain ⟨h1, h2, h3⟩ := h
  refine ⟨h1, h2, h3.imp id ?_⟩
  rintro ⟨b, o, rfl, hc⟩
  refine ⟨b, o, rfl, fun i hi => ?_⟩
  obtain ⟨f, hf⟩ := hc i hi
  refine ⟨f, fun j hj => ?_⟩
  have := hf j hj
  rw [← this]
  exact World.cell?_of_block (w := w) (a := ⟨b, o + i * 5 + j, none⟩) (k.block b (World.block_lt_of_cell? w _ this) (hs b o rfl))

/-- A call's five cells. -/
def actA (f : Nat → Int) : Array Value := ((List.range 5).map fun j => Value.int .i64 (f j)).toArray
theorem actA_size (f : Nat → Int) : (actA f).size = 5 := by simp [actA]
theorem actA_get (f : Nat → Int) (i : Nat) (hi : i < 5) : (actA f)[i]? = some (.int .i64 (f i)) := by simp [actA, hi]
theorem act0 : actA (fun _ => 0) = #[.int .i64 0, .int .i64 0, .int .i64 0, .int .i64 0, .int .i64 0] := rfl
theorem size36 : (Try.prog.info? 36).map (·.size) = some 5 := by kernel_rfl
theorem under36 : ∃ d, Try.prog.underlying 36 = some d ∧ d.isRow = true := ⟨_, Try.underlying36, rfl⟩
theorem load_act {w : World} {b o : Nat} {f : Nat → Int} (h : ∀ j, j < 5 → w.cell? ⟨b, o + j, none⟩ = some (.int .i64 (f j))) : (Instr.loadAt 36 (.pointer (some ⟨b, o, none⟩))).run Try.prog w = .ok (.agg (actA f)) w := by
  obtain ⟨t, h1, h2⟩ := under36
  have hr : w.rangeAt b o (actA f).toList := by
    intro j x hx
    have hj : j < 5 := by have := (List.getElem?_eq_some_iff.1 hx).1; simpa [actA] using this
    rw [h j hj, ← hx]
    simp [actA, hj]
  have := run_loadAt_mid (P := Try.prog) w b o 36 (actA f).toList t hr h1 h2 (by rw [size36]; simp [actA])
  simpa using this
theorem store_act {w : World} {p : Nat} {f : Nat → Value} (h : Blk w p 5 f) (a : Nat → Int) :
    (Instr.storeAt 36 (.pointer (some ⟨p, 0, none⟩)) (.agg (actA a))).run Try.prog w = .ok () (w.setCells p 0 ((List.range 5).map fun j => .int .i64 (a j))) := by
  have ht : w.there p 0 (actA a).size := fun j hj => by rw [actA_size] at hj; exact ⟨by rw [(h (0 + j) (by omega)).1]; rfl, (h (0 + j) (by omega)).2⟩
  exact run_storeAt_mid w p 0 36 (actA a) ht (by rw [actA_size]; exact size36) (all_oneCell_toArray (fun x hx => by simp at hx; obtain ⟨i, _, rfl⟩ := hx; rfl))
/-- A call laid into a new variable. -/
theorem new_act (w : World) (f : Nat → Int) : ∃ w', (Instr.storeAt 36 (.pointer (some ⟨w.heap.size, 0, none⟩)) (.agg (actA f))).run Try.prog (w.alloc (.cells #[.int .i64 0, .int .i64 0, .int .i64 0, .int .i64 0, .int .i64 0] 36)) = .ok () w' ∧
    Blk w' w.heap.size 5 (fun j => .int .i64 (f j)) ∧ Keep (fun _ => False) w w' := by
  have hb := blk_alloc w _ 36 5 _ (actA_get (fun _ => 0))
  have hk : Keep (fun _ => False) w (w.alloc (.cells (actA (fun _ => 0)) 36)) := (Keep.refl _ _).alloc _
  rw [act0] at hb hk
  refine ⟨_, store_act hb f, (hb.setCells 0 5 _ (by omega)).congr (fun i hi => by rw [if_pos (by omega), Nat.sub_zero]), hk.setCells (Or.inr (Nat.le_refl _)) _ _⟩
end Tg
end Go.Proofs.Ytdeepmifolaenaa
