/-
  The landed array: its memory, and its small calls: capacity, right, part, Content, Read, New.
-/
import Derived.Test.YtikepmdlpalpfaaMk
import Derived.Lib.SliceRun
import Derived.Deep.CutBlock
import Derived.Deep.Slices
namespace Go.Proofs.Ytikepmdlpalpfaa
open Go.ChangeShapes Go.WideShapes Go.ChangeAt Go.RowKit
namespace Tg
/-- The landed array in memory: a struct of one cell in block p, its bytes in block g. -/
structure Arr (w : World) (p g cap : Nat) (l : List Int) : Prop where
  ne : p ≠ g
  cell : w.cell? ⟨p, 0, none⟩ = some (.slice (some ⟨g, 0, none⟩) l.length cap)
  blk : Blk w g l.length (fun i => .int .u8 (l.getD i 0))
  b8 : B8 l
  pos : 0 < l.length
  room : l.length ≤ cap
  most : cap ≤ 9223372036854775807
def MArr (S : Nat → Prop) (w : World) (p : Nat) (l : List Int) : Prop :=
  ∃ g cap, Arr w p g cap l ∧ ∀ k, S k ↔ (k = p ∨ k = g)
theorem Arr.keep {T : Nat → Prop} {w w' : World} {p g cap : Nat} {l : List Int} (h : Arr w p g cap l) (k : Keep T w w') (h1 : ¬ T p) (h2 : ¬ T g) : Arr w' p g cap l :=
  ⟨h.ne, by rw [← h.cell]; exact World.cell?_of_block (w := w) (a := ⟨p, 0, none⟩) (k.block p (World.block_lt_of_cell? w _ h.cell) h1), h.blk.keep k h2, h.b8, h.pos, h.room, h.most⟩
theorem Arr.row {w : World} {p g cap : Nat} {l : List Int} (h : Arr w p g cap l) (a n : Nat) (hn : (a + n) * 32 ≤ l.length) : Row w (some ⟨g, a * 32, none⟩) (n * 32) (cap - a * 32) (rdL l a n) := by
  refine ⟨rdL_len hn, by have := h.room; omega, by have := h.most; omega, rdL_b8 h.b8, Or.inr ⟨_, _, rfl, fun i hi => ?_⟩⟩
  rw [(h.blk (a * 32 + i) (by omega)).1]
  unfold rdL
  have e : (List.drop (a * 32) (List.take ((a + n) * 32) l)).getD i 0 = l.getD (a * 32 + i) 0 := by
    simp only [List.getD_eq_getElem?_getD, List.getElem?_drop, List.getElem?_take]
    rw [if_pos (by omega)]
  rw [e]
theorem Arr.all {w : World} {p g cap : Nat} {l : List Int} (h : Arr w p g cap l) : Row w (some ⟨g, 0, none⟩) l.length cap l := by
  refine ⟨rfl, h.room, h.most, h.b8, Or.inr ⟨_, _, rfl, fun i hi => ?_⟩⟩
  rw [(h.blk (0 + i) (by omega)).1, Nat.zero_add]
set_option maxRecDepth 100000 in
theorem capacity_any {w : World} {p g cap N : Nat} {l : List Int} (h : Arr w p g cap l) (hl : l.length = N * 32) (hN : N ≤ 512) : Calls Try.prog 23 #[Ptr p] w fun e w' => e = .returned (.int .i64 (N : Int)) ∧ w' = w := by
  have hc := h.cell
  have q1 : (l.length : Int).tdiv 32 = (N : Int) := by rw [Int.tdiv_eq_ediv_of_nonneg (by omega)]; omega
  have q2 := wrapI (x := (N : Int)) (by omega) (by omega)
  have q3 : (l.length : Int) ≤ 9223372036854775807 := by omega
  generalize l.length = L at *
  clear hl hN h
  go_enter Try.func23, Try.ntmps23
  go_wp2_with fail
  go_ret
  exact ⟨rfl, rfl⟩
set_option maxRecDepth 100000 in
theorem right_any {w : World} {p g cap N : Nat} {l : List Int} (h : Arr w p g cap l) (hl : l.length = N * 32) (hN : N ≤ 512) {lba n : Int} (i1 : I64 lba) (i2 : I64 n) : Calls Try.prog 18 #[Ptr p, .int .i64 lba, .int .i64 n] w fun e w' => e = .returned (.bool (okR N lba n)) ∧ w' = w := by
  have hc := capacity_any h hl hN
  unfold I64 at i1 i2
  unfold okR
  clear h hl
  by_cases h1 : 1 ≤ n
  · by_cases h2 : 0 ≤ lba
    · have dw := wrapI (x := (N : Int) - lba) (by omega) (by omega)
      have g1 : decide (1 ≤ n) = true := decide_eq_true h1
      have g2 : decide (0 ≤ lba) = true := decide_eq_true h2
      go_enter Try.func18, Try.ntmps18
      go_wp2_with fail
      refine hc.mono ?_
      rintro e w1 ⟨rfl, e0⟩
      subst e0
      go_wp2_with fail
      go_ret
      exact ⟨by simp [h1, h2], rfl⟩
    · go_enter Try.func18, Try.ntmps18
      go_wp2_with fail
      go_ret
      exact ⟨by simp; intros; omega, rfl⟩
  · go_enter Try.func18, Try.ntmps18
    go_wp2_with fail
    go_ret
    exact ⟨by simp; intros; omega, rfl⟩
set_option maxRecDepth 100000 in
theorem part_any {w : World} {p g cap N : Nat} {l : List Int} (h : Arr w p g cap l) (hl : l.length = N * 32) (hN : N ≤ 512) {lba n : Nat} (hr : okR N lba n = true) : Calls Try.prog 19 #[Ptr p, .int .i64 (lba : Int), .int .i64 (n : Int)] w fun e w' => e = .returned (.slice (some ⟨g, lba * 32, none⟩) (n * 32) (cap - lba * 32)) ∧ w' = w := by
  have hc := h.cell
  have hb := okR_iff.1 hr
  have hrm := h.room
  have q1 : IntKind.i64.wrap ((lba : Int) * 32) = ((lba * 32 : Nat) : Int) := by rw [show (lba : Int) * 32 = ((lba * 32 : Nat) : Int) by omega]; exact wrapI (by omega) (by omega)
  have q2 : IntKind.i64.wrap ((lba : Int) + n) = ((lba + n : Nat) : Int) := by rw [show (lba : Int) + n = ((lba + n : Nat) : Int) by omega]; exact wrapI (by omega) (by omega)
  have q3 : IntKind.i64.wrap (((lba + n : Nat) : Int) * 32) = (((lba + n) * 32 : Nat) : Int) := by rw [show ((lba + n : Nat) : Int) * 32 = (((lba + n) * 32 : Nat) : Int) by omega]; exact wrapI (by omega) (by omega)
  have d1 : lba * 32 ≤ (lba + n) * 32 := by omega
  have d2 : (lba + n) * 32 ≤ cap := by omega
  have d3 : ¬ cap = lba * 32 := by omega
  have hE : Hid ((lba + n) * 32 - lba * 32 = n * 32) := by show _ = _; omega
  generalize lba * 32 = A at *
  generalize hX : lba + n = X at *
  generalize X * 32 = B at *
  generalize n * 32 = M at *
  generalize l.length = L at *
  clear h hr hb hX hrm hl hN
  go_enter Try.func19, Try.ntmps19
  go_wp2_with fail
  go_ret
  exact ⟨by rw [show B - A = M from hE]; rfl, rfl⟩
set_option maxRecDepth 100000 in
theorem content_any {w : World} {p g cap : Nat} {l : List Int} (h : Arr w p g cap l) : Calls Try.prog 15 #[Ptr p] w fun e w' => e = .returned (.string (strOfNums l)) ∧ w' = w := by
  have hc := h.cell
  have ht := h.all.text
  generalize strOfNums l = s at *
  generalize l.length = L at *
  clear h
  go_enter Try.func15, Try.ntmps15
  go_wp2_with fail
  go_ret
  exact ⟨rfl, rfl⟩
set_option maxRecDepth 100000 in
theorem read_no {w : World} {p g cap N : Nat} {l : List Int} (h : Arr w p g cap l) (hl : l.length = N * 32) (hN : N ≤ 512) {lba n : Int} (i1 : I64 lba) (i2 : I64 n) (hr : okR N lba n = false) : Calls Try.prog 8 #[Ptr p, .int .i64 lba, .int .i64 n] w fun e w' => e = .returned (.tuple #[.string ⟨#[]⟩, .int .i64 1]) ∧ w' = w := by
  have hc := right_any h hl hN i1 i2
  rw [hr] at hc
  clear h hl hN i1 i2 hr
  go_enter Try.func8, Try.ntmps8
  go_wp2_with fail
  refine hc.mono ?_
  rintro e w1 ⟨rfl, e0⟩
  subst e0
  go_wp2_with fail
  go_ret2
  exact ⟨rfl, rfl⟩
theorem i64_of_nat {n : Nat} (h : n ≤ 1000000) : I64 (n : Int) := by unfold I64; omega
theorem okR_bounds {N lba n : Nat} (hN : N ≤ 512) (h : okR N lba n = true) : lba ≤ 512 ∧ n ≤ 512 ∧ lba + n ≤ N ∧ 1 ≤ n := by
  have := okR_iff.1 h
  omega
set_option maxRecDepth 100000 in
theorem read_yes {w : World} {p g cap N : Nat} {l : List Int} (h : Arr w p g cap l) (hl : l.length = N * 32) (hN : N ≤ 512) {lba n : Nat} (hr : okR N lba n = true) : Calls Try.prog 8 #[Ptr p, .int .i64 (lba : Int), .int .i64 (n : Int)] w fun e w' => e = .returned (.tuple #[.string (strOfNums (rdL l lba n)), .int .i64 0]) ∧ w' = w := by
  have hb := okR_bounds hN hr
  have hc := right_any h hl hN (i64_of_nat (n := lba) (by omega)) (i64_of_nat (n := n) (by omega))
  have hp := part_any h hl hN hr
  have ht := (h.row lba n (by omega)).text
  rw [hr] at hc
  generalize strOfNums (rdL l lba n) = s at *
  generalize lba * 32 = A at *
  generalize n * 32 = M at *
  clear h hl hN hr hb
  go_enter Try.func8, Try.ntmps8
  go_wp2_with fail
  refine hc.mono ?_
  rintro e w1 ⟨rfl, e0⟩
  subst e0
  go_wp2_with fail
  refine hp.mono ?_
  rintro e w1 ⟨rfl, e0⟩
  subst e0
  go_wp2_with fail
  go_ret2
  exact ⟨rfl, rfl⟩
set_option maxRecDepth 100000 in
theorem new_no (w : World) {n : Int} (h : ¬ (1 ≤ n ∧ n ≤ 512)) : Calls Try.prog 7 #[.int .i64 n] w fun e w' => e = .returned (.tuple #[.pointer none, .int .i64 1]) ∧ Keep (fun _ => False) w w' := by
  by_cases h1 : n < 1
  · clear h
    go_enter Try.func7, Try.ntmps7
    go_wp2_with fail
    go_ret2
    exact ⟨rfl, Keep.refl _ _⟩
  · have h2 : 512 < n := by omega
    clear h
    have g1 : decide (n < 1) = false := decide_eq_false h1
    go_enter Try.func7, Try.ntmps7
    go_wp2_with fail
    go_ret2
    exact ⟨rfl, Keep.refl _ _⟩
theorem arr_boxed {w : World} {g n cap : Nat} {l : List Int} (hr : Row w (some ⟨g, 0, none⟩) n cap l) (hf : Free w g cap) (hn : 0 < n) : Arr (w.alloc (.cells #[.slice (some ⟨g, 0, none⟩) n cap] 47)) w.heap.size g cap l := by
  obtain ⟨r1, r2, r3, r4, r5⟩ := id hr
  subst r1
  have hlt : g < w.heap.size := World.block_lt_of_cell? w _ (hr.cellAt hn)
  refine ⟨by omega, ?_, ?_, r4, hn, r2, r3⟩
  · have hb : Blk (w.alloc (.cells #[.slice (some ⟨g, 0, none⟩) l.length cap] 47)) w.heap.size 1 (fun _ => .slice (some ⟨g, 0, none⟩) l.length cap) := blk_alloc w _ 47 1 _ (fun i (hi : i < 1) => by
      have e : i = 0 := by omega
      rw [e]; rfl)
    exact (hb 0 (by omega)).1
  · exact Blk.alloc (fun i hi => ⟨hr.cellAt hi, (hf i (by omega)).2⟩) _
set_option maxRecDepth 100000 in
theorem new_yes (w : World) {n : Nat} (h1 : 1 ≤ n) (h2 : n ≤ 512) : Calls Try.prog 7 #[.int .i64 (n : Int)] w fun e w' => ∃ (p : Nat) (S : Nat → Prop), e = .returned (.tuple #[Ptr p, .int .i64 0]) ∧ MArr S w' p (List.replicate (n * 32) 0) ∧ (∀ k, S k → w.heap.size ≤ k) ∧ Keep (fun _ => False) w w' := by
  have q1 : IntKind.i64.wrap ((n : Int) * 32) = ((n * 32 : Nat) : Int) := by rw [show (n : Int) * 32 = ((n * 32 : Nat) : Int) by omega]; exact wrapI (by omega) (by omega)
  have hmk := make_bytes (n * 32) (by omega) w
  have g1 : decide ((n : Int) < 1) = false := decide_eq_false (by omega)
  have g2 : ¬ ((n : Int) < 1) := by omega
  have g3 : ¬ (512 < (n : Int)) := by omega
  have hR := row_made w (n * 32) (by omega)
  have hF := free_made w (n * 32)
  have hK : Keep (fun _ => False) w (w.alloc (.cells (madeCells #[.int .u8 0] (n * 32)) 5)) := (Keep.refl _ _).alloc _
  have hm : Hid (0 < n * 32 ∧ n * 32 ≤ 16384) := ⟨by omega, by omega⟩
  have hz : (w.alloc (.cells (madeCells #[.int .u8 0] (n * 32)) 5)).heap.size = w.heap.size + 1 := Array.size_push ..
  generalize n * 32 = m at *
  clear h1 h2
  go_enter Try.func7, Try.ntmps7
  go_wp2_with fail
  go_ret2
  have hB := arr_boxed hR hF hm.1
  rw [hz] at hB
  exact ⟨_, rfl, fun k => k = w.heap.size + 1 ∨ k = w.heap.size, ⟨_, _, hB, fun k => Iff.rfl⟩, fun k hk => by omega, hK.alloc _⟩
end Tg
end Go.Proofs.Ytikepmdlpalpfaa
