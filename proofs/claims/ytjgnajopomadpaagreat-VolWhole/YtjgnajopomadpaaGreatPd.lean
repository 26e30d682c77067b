/-
  An entry in memory, and a sector read as one (mathematics).
-/
import Derived.Test.YtjgnajopomadpaaGreatPc
namespace Go.Proofs.YtjgnajopomadpaaGreat
open Go.ChangeShapes Go.WideShapes Go.ChangeAt Go.RowKit
namespace Tg
open Qm
/-- A volume's entry: its name's bytes, its first sector, how many, the entry's own sector. -/
structure En where
  nm : List Int
  f : Int
  n : Int
  i : Int
def En.z : En := ⟨[], 0, 0, 0⟩
def enA (x : En) : Array Value := #[.string (strOfNums x.nm), .int .i64 x.f, .int .i64 x.n, .int .i64 x.i]
def enC (x : En) (j : Nat) : Value := if j = 0 then .string (strOfNums x.nm) else if j = 1 then .int .i64 x.f else if j = 2 then .int .i64 x.n else .int .i64 x.i
theorem size50 : (Tryz.prog.info? 91).map (·.size) = some 4 := by kernel_rfl
theorem under50 : ∃ d, Tryz.prog.underlying 91 = some d ∧ d.isRow = true := ⟨_, Tryz.underlying91, rfl⟩
theorem store50 {w : World} {g : Nat} {y : En} (h : Blk w g 4 (enC y)) (x : En) : ∃ w', (Instr.storeAt 91 (.pointer (some ⟨g, 0, none⟩)) (.agg (enA x))).run Tryz.prog w = .ok () w' ∧ Blk w' g 4 (enC x) ∧ Keep (fun k => k = g) w w' := by
  refine ⟨w.setCells g 0 ((List.range 4).map fun j => enC x j), ?_, (h.setCells 0 4 (fun j => enC x j) (by omega)).congr (fun i hi => by rw [if_pos ⟨Nat.zero_le _, by omega⟩]; rfl), Keep.setCells (S := fun k => k = g) (Keep.refl _ _) (Or.inl rfl) _ _⟩
  have ht : w.there g 0 (enA x).size := fun j hj => by
    have hj : j < 4 := hj
    exact ⟨by rw [(h (0 + j) (by omega)).1]; rfl, (h (0 + j) (by omega)).2⟩
  exact run_storeAt_mid w g 0 91 (enA x) ht size50 (all_oneCell_toArray (fun v hv => by simp at hv; rcases hv with rfl | rfl | rfl | rfl <;> rfl))
theorem range50 {w : World} {g : Nat} {x : En} (h : Blk w g 4 (enC x)) : w.rangeAt g 0 (enA x).toList := by
  intro j v hv
  have hj : j < 4 := by have := (List.getElem?_eq_some_iff.1 hv).1; simpa [enA] using this
  rw [(h (0 + j) (by omega)).1, ← hv]
  rcases (by omega : j = 0 ∨ j = 1 ∨ j = 2 ∨ j = 3) with rfl | rfl | rfl | rfl <;> rfl
theorem loadVar50 {w : World} {g : Nat} {x : En} (h : Blk w g 4 (enC x)) : (loadVar 91 ⟨g, 0, none⟩).run Tryz.prog w = .ok (.agg (enA x)) w := by
  obtain ⟨t, h1, h2⟩ := under50
  have := run_loadVar_mid (P := Tryz.prog) w g 0 91 (enA x).toList t (range50 h) h1 h2 (by rw [size50]; simp [enA])
  simpa using this
theorem load50 {w : World} {g : Nat} {x : En} (h : Blk w g 4 (enC x)) : (Instr.loadAt 91 (.pointer (some ⟨g, 0, none⟩))).run Tryz.prog w = .ok (.agg (enA x)) w := by
  obtain ⟨t, h1, h2⟩ := under50
  have := run_loadAt_mid (P := Tryz.prog) w g 0 91 (enA x).toList t (range50 h) h1 h2 (by rw [size50]; simp [enA])
  simpa using this
theorem new50 (w : World) : Blk (w.alloc (.cells #[.string ⟨#[]⟩, .int .i64 0, .int .i64 0, .int .i64 0] 91)) w.heap.size 4 (enC En.z) :=
  blk_alloc w _ 91 4 _ (by intro k hk; rcases (by omega : k = 0 ∨ k = 1 ∨ k = 2 ∨ k = 3) with rfl | rfl | rfl | rfl <;> rfl)
set_option maxRecDepth 100000 in
theorem alloc50 (w : World) : ∃ w', (Instr.alloc 91 true (.tuple #[])).run Tryz.prog w = .ok (.pointer (some ⟨w.heap.size, 0, none⟩)) w' ∧ Blk w' w.heap.size 4 (enC En.z) ∧ Keep (fun _ => False) w w' :=
  ⟨_, by go_simp, new50 w, (Keep.refl _ _).alloc _⟩
theorem results_cell2 {fn : Func} {p q : Tmp} {ty : TypeId} (h : fn.results = #[.cell p ty, .tmp q]) (tmps : Array Value) (P : Program) (w : World) :
    (results fn tmps).run P w = (((asAddr (tmps.getD p undef)).run P w).andThen fun a w₁ => (loadVar ty a).run P w₁).andThen fun v w₁ => .ok (.tuple #[v, tmps.getD q undef]) w₁ := by
  simp only [results, h]
  simp [Sem.run_bind, Result.andThen]
  split <;> rfl
theorem nums_str {l : List Int} (h : B8 l) : nums (strOfNums l) = l := str_inj (nums_b8 _) h (str_nums _)
theorem str_at {l : List Int} (hb : B8 l) {k : Nat} (h : k < (strOfNums l).size) : (((strOfNums l)[k]'h).toNat : Int) = l.getD k 0 := by
  have := nums_at h
  rw [nums_str hb] at this
  exact this.symm
/-- What a sector's bytes tell of an entry. -/
def entE (b : List Int) (i : Int) : En := ⟨(b.take (2 + (b.getD 1 0).toNat)).drop 2, b.getD 18 0 + 256 * b.getD 19 0, b.getD 20 0 + 256 * b.getD 21 0, i⟩
/-- Is it one by itself, on a disk of N sectors? -/
def entOk (N : Int) (b : List Int) : Bool := decide (1 ≤ b.getD 1 0 ∧ b.getD 1 0 ≤ 16) && (goodS (bs (strOfNums (entE b 0).nm)) && (decide (8 ≤ (entE b 0).f) && (decide (1 ≤ (entE b 0).n) && (decide ((entE b 0).f + (entE b 0).n ≤ N) && decide (bytesE (entE b 0).nm (entE b 0).f (entE b 0).n = b)))))
def entL (N : Int) (l : List Int) (i : Nat) : Option En := if entOk N (rdL l i 1) then some (entE (rdL l i 1) i) else none
def enV : Option En → Value
  | none => .tuple #[.agg (enA En.z), .bool false]
  | some x => .tuple #[.agg (enA x), .bool true]
end Tg
end Go.Proofs.YtjgnajopomadpaaGreat
