/-
  The landed array: New, Read, Write, Trim, Content (stage 17's).
-/
import Derived.Test.YtjgnajopomadpaaGreatQb
import Derived.ArgAppend
import Derived.BigQuiet
import Derived.BigRegion
import Derived.ChangeKeysEq
import Derived.Deep.CutBlock
import Derived.Deep.MidRow
import Derived.Deep.RegionHeld3
import Derived.Deep.Slices
import Derived.Laws.AppendOwn
import Derived.Laws.BytesArg
import Derived.Laws.OwnMore
import Derived.Laws.ResultCell
import Derived.SizedLaws
import Derived.WalkKit
import Derived.ProofKit
import Derived.OpenShut
import Derived.ShutString
import Derived.ChangeOld
import Derived.Below
import Derived.Deep.OwnRows
import Derived.Laws.IdiomCopy
import Derived.Lib.SlBytesConst
import Derived.Lib.ConvBytes
import Derived.MapKept
import Derived.Laws.StructEq
import Derived.Lib.SliceRun
namespace Go.Proofs.YtjgnajopomadpaaGreat
open Go.ChangeShapes Go.WideShapes Go.ChangeAt Go.RowKit
namespace Tg
def I64 (x : Int) : Prop := -9223372036854775808 ≤ x ∧ x ≤ 9223372036854775807
abbrev Ptr (p : Nat) : Value := .pointer (some ⟨p, 0, none⟩)
def Two (M : (Nat → Prop) → World → Nat → List Int → Prop) (w0 w : World) (p q : Nat) (l m : List Int) : Prop :=
  ∃ S T : Nat → Prop, M S w p l ∧ M T w q m ∧ (∀ k, S k → ¬ T k) ∧ (∀ k, S k → w0.heap.size ≤ k) ∧ (∀ k, T k → w0.heap.size ≤ k) ∧ Keep (fun _ => False) w0 w
theorem Two.symm {M : (Nat → Prop) → World → Nat → List Int → Prop} {w0 w : World} {p q : Nat} {l m : List Int} (h : Two M w0 w p q l m) : Two M w0 w q p m l := by
  obtain ⟨S, T, h1, h2, h3, h4, h5, h6⟩ := h
  exact ⟨T, S, h2, h1, fun k a b => h3 k b a, h5, h4, h6⟩
structure Arr (w : World) (p g cap : Nat) (l : List Int) : Prop where
  ne : p ≠ g
  cell : w.cell? ⟨p, 0, none⟩ = some (.slice (some ⟨g, 0, none⟩) l.length cap)
  blk : Blk w g l.length (fun i => .int .u8 (l.getD i 0))
  b8 : B8 l
  pos : 0 < l.length
  room : l.length ≤ cap
  most : cap ≤ 9223372036854775807
def MArr (S : Nat → Prop) (w : World) (p : Nat) (l : List Int) : Prop :=
  ∃ g cap, Arr w p g cap l ∧ ∀ k, S k ↔ (k = p ∨ k = g)
theorem Arr.keep {T : Nat → Prop} {w w' : World} {p g cap : Nat} {l : List Int} (h : Arr w p g cap l) (k : Keep T w w') (h1 : ¬ T p) (h2 : ¬ T g) : Arr w' p g cap l :=
  ⟨h.ne, by rw [← h.cell]; exact World.cell?_of_block (w := w) (a := ⟨p, 0, none⟩) (k.block p (World.block_lt_of_cell? w _ h.cell) h1), h.blk.keep k h2, h.b8, h.pos, h.room, h.most⟩
theorem Arr.row {w : World} {p g cap : Nat} {l : List Int} (h : Arr w p g cap l) (a n : Nat) (hn : (a + n) * 32 ≤ l.length) : Row w (some ⟨g, a * 32, none⟩) (n * 32) (cap - a * 32) (rdL l a n) := by
  refine ⟨rdL_len hn, by have := h.room; omega, by have := h.most; omega, rdL_b8 h.b8, Or.inr ⟨_, _, rfl, fun i hi => ?_⟩⟩
  rw [(h.blk (a * 32 + i) (by omega)).1]
  unfold rdL
  have e : (List.drop (a * 32) (List.take ((a + n) * 32) l)).getD i 0 = l.getD (a * 32 + i) 0 := by
    simp only [List.getD_eq_getElem?_getD, List.getElem?_drop, List.getElem?_take]
    rw [if_pos (by omega)]
  rw [e]
theorem Arr.all {w : World} {p g cap : Nat} {l : List Int} (h : Arr w p g cap l) : Row w (some ⟨g, 0, none⟩) l.length cap l := by
  refine ⟨rfl, h.room, h.most, h.b8, Or.inr ⟨_, _, rfl, fun i hi => ?_⟩⟩
  rw [(h.blk (0 + i) (by omega)).1, Nat.zero_add]
set_option maxRecDepth 100000 in
theorem capacity_any {w : World} {p g cap N : Nat} {l : List Int} (h : Arr w p g cap l) (hl : l.length = N * 32) (hN : N ≤ 512) : Calls Tryz.prog 64 #[Ptr p] w fun e w' => e = .returned (.int .i64 (N : Int)) ∧ w' = w := by
  have hc := h.cell
  have q1 : (l.length : Int).tdiv 32 = (N : Int) := by rw [Int.tdiv_eq_ediv_of_nonneg (by omega)]; omega
  have q2 := wrapI (x := (N : Int)) (by omega) (by omega)
  have q3 : (l.length : Int) ≤ 9223372036854775807 := by omega
  generalize l.length = L at *
  clear hl hN h
  go_enter Tryz.func64, Tryz.ntmps64
  go_wp2_with fail
  go_ret
  exact ⟨rfl, rfl⟩
set_option maxRecDepth 100000 in
theorem right_any {w : World} {p g cap N : Nat} {l : List Int} (h : Arr w p g cap l) (hl : l.length = N * 32) (hN : N ≤ 512) {lba n : Int} (i1 : I64 lba) (i2 : I64 n) : Calls Tryz.prog 40 #[Ptr p, .int .i64 lba, .int .i64 n] w fun e w' => e = .returned (.bool (okR N lba n)) ∧ w' = w := by
  have hc := capacity_any h hl hN
  unfold I64 at i1 i2
  unfold okR
  clear h hl
  by_cases h1 : 1 ≤ n
  · by_cases h2 : 0 ≤ lba
    · have dw := wrapI (x := (N : Int) - lba) (by omega) (by omega)
      have g1 : decide (1 ≤ n) = true := decide_eq_true h1
      have g2 : decide (0 ≤ lba) = true := decide_eq_true h2
      go_enter Tryz.func40, Tryz.ntmps40
      go_wp2_with fail
      refine hc.mono ?_
      rintro e w1 ⟨rfl, e0⟩
      subst e0
      go_wp2_with fail
      go_ret
      exact ⟨by simp [h1, h2], rfl⟩
    · go_enter Tryz.func40, Tryz.ntmps40
      go_wp2_with fail
      go_ret
      exact ⟨by simp; intros; omega, rfl⟩
  · go_enter Tryz.func40, Tryz.ntmps40
    go_wp2_with fail
    go_ret
    exact ⟨by simp; intros; omega, rfl⟩
set_option maxRecDepth 100000 in
theorem part_any {w : World} {p g cap N : Nat} {l : List Int} (h : Arr w p g cap l) (hl : l.length = N * 32) (hN : N ≤ 512) {lba n : Nat} (hr : okR N lba n = true) : Calls Tryz.prog 41 #[Ptr p, .int .i64 (lba : Int), .int .i64 (n : Int)] w fun e w' => e = .returned (.slice (some ⟨g, lba * 32, none⟩) (n * 32) (cap - lba * 32)) ∧ w' = w := by
  have hc := h.cell
  have hb := okR_iff.1 hr
  have hrm := h.room
  have q1 : IntKind.i64.wrap ((lba : Int) * 32) = ((lba * 32 : Nat) : Int) := by rw [show (lba : Int) * 32 = ((lba * 32 : Nat) : Int) by omega]; exact wrapI (by omega) (by omega)
  have q2 : IntKind.i64.wrap ((lba : Int) + n) = ((lba + n : Nat) : Int) := by rw [show (lba : Int) + n = ((lba + n : Nat) : Int) by omega]; exact wrapI (by omega) (by omega)
  have q3 : IntKind.i64.wrap (((lba + n : Nat) : Int) * 32) = (((lba + n) * 32 : Nat) : Int) := by rw [show ((lba + n : Nat) : Int) * 32 = (((lba + n) * 32 : Nat) : Int) by omega]; exact wrapI (by omega) (by omega)
  have d1 : lba * 32 ≤ (lba + n) * 32 := by omega
  have d2 : (lba + n) * 32 ≤ cap := by omega
  have d3 : ¬ cap = lba * 32 := by omega
  have hE : Hid ((lba + n) * 32 - lba * 32 = n * 32) := by show _ = _; omega
  generalize lba * 32 = A at *
  generalize hX : lba + n = X at *
  generalize X * 32 = B at *
  generalize n * 32 = M at *
  generalize l.length = L at *
  clear h hr hb hX hrm hl hN
  go_enter Tryz.func41, Tryz.ntmps41
  go_wp2_with fail
  go_ret
  exact ⟨by rw [show B - A = M from hE]; rfl, rfl⟩
set_option maxRecDepth 100000 in
theorem content_any {w : World} {p g cap : Nat} {l : List Int} (h : Arr w p g cap l) : Calls Tryz.prog 24 #[Ptr p] w fun e w' => e = .returned (.string (strOfNums l)) ∧ w' = w := by
  have hc := h.cell
  have ht := h.all.text
  generalize strOfNums l = s at *
  generalize l.length = L at *
  clear h
  go_enter Tryz.func24, Tryz.ntmps24
  go_wp2_with fail
  go_ret
  exact ⟨rfl, rfl⟩
set_option maxRecDepth 100000 in
theorem read_no {w : World} {p g cap N : Nat} {l : List Int} (h : Arr w p g cap l) (hl : l.length = N * 32) (hN : N ≤ 512) {lba n : Int} (i1 : I64 lba) (i2 : I64 n) (hr : okR N lba n = false) : Calls Tryz.prog 95 #[Ptr p, .int .i64 lba, .int .i64 n] w fun e w' => e = .returned (.tuple #[.string ⟨#[]⟩, .int .i64 1]) ∧ w' = w := by
  have hc := right_any h hl hN i1 i2
  rw [hr] at hc
  clear h hl hN i1 i2 hr
  go_enter Tryz.func95, Tryz.ntmps95
  go_wp2_with fail
  refine hc.mono ?_
  rintro e w1 ⟨rfl, e0⟩
  subst e0
  go_wp2_with fail
  go_ret2
  exact ⟨rfl, rfl⟩
theorem i64_of_nat {n : Nat} (h : n ≤ 1000000) : I64 (n : Int) := by unfold I64; omega
theorem okR_bounds {N lba n : Nat} (hN : N ≤ 512) (h : okR N lba n = true) : lba ≤ 512 ∧ n ≤ 512 ∧ lba + n ≤ N ∧ 1 ≤ n := by
  have := okR_iff.1 h
  omega
set_option maxRecDepth 100000 in
theorem read_yes {w : World} {p g cap N : Nat} {l : List Int} (h : Arr w p g cap l) (hl : l.length = N * 32) (hN : N ≤ 512) {lba n : Nat} (hr : okR N lba n = true) : Calls Tryz.prog 95 #[Ptr p, .int .i64 (lba : Int), .int .i64 (n : Int)] w fun e w' => e = .returned (.tuple #[.string (strOfNums (rdL l lba n)), .int .i64 0]) ∧ w' = w := by
  have hb := okR_bounds hN hr
  have hc := right_any h hl hN (i64_of_nat (n := lba) (by omega)) (i64_of_nat (n := n) (by omega))
  have hp := part_any h hl hN hr
  have ht := (h.row lba n (by omega)).text
  rw [hr] at hc
  generalize strOfNums (rdL l lba n) = s at *
  generalize lba * 32 = A at *
  generalize n * 32 = M at *
  clear h hl hN hr hb
  go_enter Tryz.func95, Tryz.ntmps95
  go_wp2_with fail
  refine hc.mono ?_
  rintro e w1 ⟨rfl, e0⟩
  subst e0
  go_wp2_with fail
  refine hp.mono ?_
  rintro e w1 ⟨rfl, e0⟩
  subst e0
  go_wp2_with fail
  go_ret2
  exact ⟨rfl, rfl⟩
set_option maxRecDepth 100000 in
theorem new_no (w : World) {n : Int} (h : ¬ (1 ≤ n ∧ n ≤ 512)) : Calls Tryz.prog 9 #[.int .i64 n] w fun e w' => e = .returned (.tuple #[.pointer none, .int .i64 1]) ∧ Keep (fun _ => False) w w' := by
  by_cases h1 : n < 1
  · clear h
    go_enter Tryz.func9, Tryz.ntmps9
    go_wp2_with fail
    go_ret2
    exact ⟨rfl, Keep.refl _ _⟩
  · have h2 : 512 < n := by omega
    clear h
    have g1 : decide (n < 1) = false := decide_eq_false h1
    go_enter Tryz.func9, Tryz.ntmps9
    go_wp2_with fail
    go_ret2
    exact ⟨rfl, Keep.refl _ _⟩
theorem arr_boxed {w : World} {g n cap : Nat} {l : List Int} (hr : Row w (some ⟨g, 0, none⟩) n cap l) (hf : Free w g cap) (hn : 0 < n) : Arr (w.alloc (.cells #[.slice (some ⟨g, 0, none⟩) n cap] 62)) w.heap.size g cap l := by
  obtain ⟨r1, r2, r3, r4, r5⟩ := id hr
  subst r1
  have hlt : g < w.heap.size := World.block_lt_of_cell? w _ (hr.cellAt hn)
  refine ⟨by omega, ?_, ?_, r4, hn, r2, r3⟩
  · have hb : Blk (w.alloc (.cells #[.slice (some ⟨g, 0, none⟩) l.length cap] 62)) w.heap.size 1 (fun _ => .slice (some ⟨g, 0, none⟩) l.length cap) := blk_alloc w _ 62 1 _ (fun i (hi : i < 1) => by
      have e : i = 0 := by omega
      rw [e]; rfl)
    exact (hb 0 (by omega)).1
  · exact Blk.alloc (fun i hi => ⟨hr.cellAt hi, (hf i (by omega)).2⟩) _
set_option maxRecDepth 100000 in
theorem new_yes (w : World) {n : Nat} (h1 : 1 ≤ n) (h2 : n ≤ 512) : Calls Tryz.prog 9 #[.int .i64 (n : Int)] w fun e w' => ∃ (p : Nat) (S : Nat → Prop), e = .returned (.tuple #[Ptr p, .int .i64 0]) ∧ MArr S w' p (List.replicate (n * 32) 0) ∧ (∀ k, S k → w.heap.size ≤ k) ∧ Keep (fun _ => False) w w' := by
  have q1 : IntKind.i64.wrap ((n : Int) * 32) = ((n * 32 : Nat) : Int) := by rw [show (n : Int) * 32 = ((n * 32 : Nat) : Int) by omega]; exact wrapI (by omega) (by omega)
  have hmk := make_bytes (n * 32) (by omega) w
  have g1 : decide ((n : Int) < 1) = false := decide_eq_false (by omega)
  have g2 : ¬ ((n : Int) < 1) := by omega
  have g3 : ¬ (512 < (n : Int)) := by omega
  have hR := row_made w (n * 32) (by omega)
  have hF := free_made w (n * 32)
  have hK : Keep (fun _ => False) w (w.alloc (.cells (madeCells #[.int .u8 0] (n * 32)) 5)) := (Keep.refl _ _).alloc _
  have hm : Hid (0 < n * 32 ∧ n * 32 ≤ 16384) := ⟨by omega, by omega⟩
  have hz : (w.alloc (.cells (madeCells #[.int .u8 0] (n * 32)) 5)).heap.size = w.heap.size + 1 := Array.size_push ..
  generalize n * 32 = m at *
  clear h1 h2
  go_enter Tryz.func9, Tryz.ntmps9
  go_wp2_with fail
  go_ret2
  have hB := arr_boxed hR hF hm.1
  rw [hz] at hB
  exact ⟨_, rfl, fun k => k = w.heap.size + 1 ∨ k = w.heap.size, ⟨_, _, hB, fun k => Iff.rfl⟩, fun k hk => by omega, hK.alloc _⟩
theorem padL_at (m : Nat) (d : List Int) (j : Nat) (hj : j < m) : (padL m d)[j]? = some (d.getD j 0) := by
  unfold padL
  by_cases h : j < d.length
  · rw [List.getElem?_append_left (by simp; omega), List.getElem?_take, if_pos hj]
    simp [List.getD, h]
  · rw [List.getElem?_append_right (by simp; omega)]
    rw [List.getElem?_replicate, if_pos (by simp; omega)]
    simp [List.getD, h]
theorem wrL_get {l : List Int} {a n : Nat} {d : List Int} (h : (a + n) * 32 ≤ l.length) (i : Nat) : (wrL l a n d).getD i 0 = if a * 32 ≤ i ∧ i < (a + n) * 32 then d.getD (i - a * 32) 0 else l.getD i 0 := by
  rw [List.getD_eq_getElem?_getD, wrL_at h]
  by_cases h1 : i < a * 32
  · rw [if_pos h1, if_neg (by omega), List.getD_eq_getElem?_getD]
  · by_cases h2 : i < (a + n) * 32
    · rw [if_neg h1, if_pos h2, if_pos (by omega), padL_at _ _ _ (by omega)]; rfl
    · rw [if_neg h1, if_neg h2, if_neg (by omega), List.getD_eq_getElem?_getD]
theorem Arr.change {w w' : World} {p g cap : Nat} {l l' : List Int} (h : Arr w p g cap l) (k : Keep (fun k => k = g) w w') (hb : Blk w' g l.length (fun i => .int .u8 (l'.getD i 0))) (hl : l'.length = l.length) (h8 : B8 l') : Arr w' p g cap l' :=
  ⟨h.ne, by rw [hl, ← h.cell]; exact World.cell?_of_block (w := w) (a := ⟨p, 0, none⟩) (k.block p (World.block_lt_of_cell? w _ h.cell) h.ne), by rw [hl]; exact hb, h8, by rw [hl]; exact h.pos, by rw [hl]; exact h.room, h.most⟩
theorem zero5 (w : World) : (zeroValue 5).run Tryz.prog w = .ok (.int .u8 0) w := by
  obtain ⟨i, hi, hz0, hz1, hz2⟩ := info_parts info5
  simp [zeroValue, typeInfo, hi, hz0]
set_option maxRecDepth 100000 in
theorem clear_none (w : World) (a : Option Addr) (c : Nat) : (Builtin.clear_ #[59] 0 #[.slice a 0 c]).run Tryz.prog w = .ok (.tuple #[]) w := by
  cases a <;> simp [Builtin.clear_, run_underlying Tryz.underlying59]
set_option maxRecDepth 100000 in
theorem clear_some {w : World} {g N : Nat} {f : Nat → Value} (h : Blk w g N f) (o n c : Nat) (hn : 0 < n) (hm : o + n ≤ N) : (Builtin.clear_ #[59] 0 #[.slice (some ⟨g, o, none⟩) n c]).run Tryz.prog w = .ok (.tuple #[]) (w.setCells g o ((List.range n).map fun _ => .int .u8 0)) := by
  have := Go.Lib.run_clear_slice (P := Tryz.prog) w 59 5 0 (.int .u8 0) Tryz.underlying59 zero5 rfl rfl g o n c hn (fun j hj => by rw [(h (o + j) (by omega)).1]; rfl) (fun j hj => (h (o + j) (by omega)).2)
  rw [this]
  congr 2
  rw [List.map_const']
  simp
theorem copy_str {w : World} {g N : Nat} {f : Nat → Value} (h : Blk w g N f) (o m c : Nat) (hm : o + m ≤ N) (t : ByteArray) :
    (Builtin.copy_ #[59, 9] 3 #[.slice (some ⟨g, o, none⟩) m c, .string t]).run Tryz.prog w = .ok (.int .i64 ((min t.size m : Nat) : Int)) (w.setCells g o ((List.range (min t.size m)).map fun i => .int .u8 ((nums t).getD i 0))) := by
  have hl : (t.data.toList.map fun x => Value.int .u8 (x.toNat : Int)).length = t.size := by rw [List.length_map]; rfl
  have e : (t.data.toList.map fun x => Value.int .u8 (x.toNat : Int)).take (min t.size m) = (List.range (min t.size m)).map fun i => Value.int .u8 ((nums t).getD i 0) := by
    apply List.ext_getElem
    · rw [List.length_take, hl]; simp
    · intro i h1 h2
      have h3 : i < min t.size m := by simpa using h2
      have h4 : i < (nums t).length := by rw [nums_len]; omega
      simp only [List.getElem_take, List.getElem_map, List.getElem_range]
      rw [List.getD_eq_getElem?_getD, List.getElem?_eq_getElem h4]
      simp [nums]
  have hst := run_storeCells_cells (P := Tryz.prog) g o ((List.range (min t.size m)).map fun i => Value.int .u8 ((nums t).getD i 0)) 0 w (fun j hj => by
      have : j < min t.size m := by simpa using hj
      rw [show o + 0 + j = o + j by omega, (h (o + j) (by omega)).1]; rfl) (fun j hj => by
      have : j < min t.size m := by simpa using hj
      rw [show o + 0 + j = o + j by omega]; exact (h (o + j) (by omega)).2) (by
    intro v hv
    obtain ⟨x, _, rfl⟩ := List.mem_map.1 hv
    rfl)
  have hmin : Nat.min t.size m = min t.size m := rfl
  simp only [Nat.add_zero] at hst
  generalize ((List.range (min t.size m)).map fun i => Value.int .u8 ((nums t).getD i 0)) = X at *
  simp [Builtin.copy_, run_underlying Tryz.underlying59, Builtin.lenOf, Builtin.firstCells, hmin, e]
  rw [hst]
  rfl
set_option maxRecDepth 100000 in
theorem write_no {w : World} {p g cap N : Nat} {l : List Int} (h : Arr w p g cap l) (hl : l.length = N * 32) (hN : N ≤ 512) {lba n : Int} (i1 : I64 lba) (i2 : I64 n) (hr : okR N lba n = false) (d : ByteArray) : Calls Tryz.prog 17 #[Ptr p, .int .i64 lba, .int .i64 n, .string d] w fun e w' => e = .returned (.int .i64 1) ∧ w' = w := by
  have hc := right_any h hl hN i1 i2
  rw [hr] at hc
  clear h hl hN i1 i2 hr
  go_enter Tryz.func17, Tryz.ntmps17
  go_wp2_with fail
  refine hc.mono ?_
  rintro e w1 ⟨rfl, e0⟩
  subst e0
  go_wp2_with fail
  go_ret
  exact ⟨rfl, rfl⟩
set_option maxRecDepth 100000 in
theorem trim_no {w : World} {p g cap N : Nat} {l : List Int} (h : Arr w p g cap l) (hl : l.length = N * 32) (hN : N ≤ 512) {lba n : Int} (i1 : I64 lba) (i2 : I64 n) (hr : okR N lba n = false) : Calls Tryz.prog 96 #[Ptr p, .int .i64 lba, .int .i64 n] w fun e w' => e = .returned (.int .i64 1) ∧ w' = w := by
  have hc := right_any h hl hN i1 i2
  rw [hr] at hc
  clear h hl hN i1 i2 hr
  go_enter Tryz.func96, Tryz.ntmps96
  go_wp2_with fail
  refine hc.mono ?_
  rintro e w1 ⟨rfl, e0⟩
  subst e0
  go_wp2_with fail
  go_ret
  exact ⟨rfl, rfl⟩
set_option maxRecDepth 100000 in
theorem trim_yes {w : World} {p g cap N : Nat} {l : List Int} (h : Arr w p g cap l) (hl : l.length = N * 32) (hN : N ≤ 512) {lba n : Nat} (hr : okR N lba n = true) : Calls Tryz.prog 96 #[Ptr p, .int .i64 (lba : Int), .int .i64 (n : Int)] w fun e w' => e = .returned (.int .i64 0) ∧ Arr w' p g cap (wrL l lba n []) ∧ Keep (fun k => k = g) w w' := by
  have hb := okR_bounds hN hr
  have hc := right_any h hl hN (i64_of_nat (n := lba) (by omega)) (i64_of_nat (n := n) (by omega))
  have hp := part_any h hl hN hr
  rw [hr] at hc
  have hcl := clear_some h.blk (lba * 32) (n * 32) (cap - lba * 32) (by omega) (by omega)
  have hk : Keep (fun k => k = g) w (w.setCells g (lba * 32) ((List.range (n * 32)).map fun _ => .int .u8 0)) := (Keep.refl (fun k => k = g) w).setCells (Or.inl rfl) _ _
  have hA : Arr (w.setCells g (lba * 32) ((List.range (n * 32)).map fun _ => .int .u8 0)) p g cap (wrL l lba n []) :=
    h.change hk ((h.blk.setCells (lba * 32) (n * 32) (fun _ => .int .u8 0) (by omega)).congr (fun i hi => by
      rw [wrL_get (by omega)]
      by_cases e : lba * 32 ≤ i ∧ i < lba * 32 + n * 32
      · rw [if_pos e, if_pos (by omega)]; simp
      · rw [if_neg e, if_neg (by omega)])) (wrL_len (by omega)) (wrL_b8 h.b8 (fun x hx => by simp at hx))
  generalize w.setCells g (lba * 32) ((List.range (n * 32)).map fun _ => .int .u8 0) = w2 at *
  generalize lba * 32 = A at *
  generalize n * 32 = M at *
  clear h hl hN hr hb
  go_enter Tryz.func96, Tryz.ntmps96
  go_wp2_with fail
  refine hc.mono ?_
  rintro e w1 ⟨rfl, e0⟩
  subst e0
  go_wp2_with fail
  refine hp.mono ?_
  rintro e w1 ⟨rfl, e0⟩
  subst e0
  go_wp2_with fail
  go_ret
  exact ⟨rfl, hA, hk⟩
set_option maxRecDepth 100000 in
theorem write_yes {w : World} {p g cap N : Nat} {l : List Int} (h : Arr w p g cap l) (hl : l.length = N * 32) (hN : N ≤ 512) {lba n : Nat} (hr : okR N lba n = true) (d : ByteArray) : Calls Tryz.prog 17 #[Ptr p, .int .i64 (lba : Int), .int .i64 (n : Int), .string d] w fun e w' => e = .returned (.int .i64 0) ∧ Arr w' p g cap (wrL l lba n (nums d)) ∧ Keep (fun k => k = g) w w' := by
  have hb := okR_bounds hN hr
  have hc := right_any h hl hN (i64_of_nat (n := lba) (by omega)) (i64_of_nat (n := n) (by omega))
  have hp := part_any h hl hN hr
  rw [hr] at hc
  have hrm := h.room
  have hcp := copy_str h.blk (lba * 32) (n * 32) (cap - lba * 32) (by omega) d
  have hB1 := h.blk.setCells (lba * 32) (min d.size (n * 32)) (fun i => .int .u8 ((nums d).getD i 0)) (by omega)
  have hk1 : Keep (fun k => k = g) w (w.setCells g (lba * 32) ((List.range (min d.size (n * 32))).map fun i => .int .u8 ((nums d).getD i 0))) := (Keep.refl (fun k => k = g) w).setCells (Or.inl rfl) _ _
  generalize w.setCells g (lba * 32) ((List.range (min d.size (n * 32))).map fun i => .int .u8 ((nums d).getD i 0)) = w1 at *
  have hkm : min d.size (n * 32) ≤ n * 32 := by omega
  have hnd := nums_len d
  by_cases hlt : min d.size (n * 32) < n * 32
  · have hcl := clear_some hB1 (lba * 32 + min d.size (n * 32)) (n * 32 - min d.size (n * 32)) (cap - lba * 32 - min d.size (n * 32)) (by omega) (by omega)
    have hB2 := hB1.setCells (lba * 32 + min d.size (n * 32)) (n * 32 - min d.size (n * 32)) (fun _ => .int .u8 0) (by omega)
    have hk2 : Keep (fun k => k = g) w (w1.setCells g (lba * 32 + min d.size (n * 32)) ((List.range (n * 32 - min d.size (n * 32))).map fun _ => .int .u8 0)) := hk1.setCells (Or.inl rfl) _ _
    have hA : Arr (w1.setCells g (lba * 32 + min d.size (n * 32)) ((List.range (n * 32 - min d.size (n * 32))).map fun _ => .int .u8 0)) p g cap (wrL l lba n (nums d)) :=
      h.change hk2 (hB2.congr (fun i hi => by
        rw [wrL_get (by omega)]
        by_cases e : lba * 32 ≤ i ∧ i < (lba + n) * 32
        · rw [if_pos e]
          by_cases e2 : lba * 32 + min d.size (n * 32) ≤ i
          · rw [if_pos (by omega)]
            have : (nums d).getD (i - lba * 32) 0 = 0 := by
              rw [List.getD_eq_getElem?_getD, List.getElem?_eq_none (by omega)]; rfl
            rw [this]
          · rw [if_neg (by omega), if_pos (by omega)]
        · rw [if_neg e, if_neg (by omega), if_neg (by omega)])) (wrL_len (by omega)) (wrL_b8 h.b8 (nums_b8 d))
    generalize w1.setCells g (lba * 32 + min d.size (n * 32)) ((List.range (n * 32 - min d.size (n * 32))).map fun _ => .int .u8 0) = w2 at *
    have d1 : n * 32 ≤ cap - lba * 32 := by omega
    have d2 : ¬ cap - lba * 32 = min d.size (n * 32) := by omega
    generalize min d.size (n * 32) = k at *
    generalize cap - lba * 32 = C at *
    generalize lba * 32 = A at *
    generalize n * 32 = M at *
    clear h hl hN hr hb hB1 hB2 hrm hnd hk1
    go_enter Tryz.func17, Tryz.ntmps17
    go_wp2_with fail
    refine hc.mono ?_
    rintro e wz ⟨rfl, e0⟩
    have e0 := e0.symm
    subst e0
    go_wp2_with fail
    refine hp.mono ?_
    rintro e wz ⟨rfl, e0⟩
    have e0 := e0.symm
    subst e0
    go_wp2_with fail
    go_ret
    exact ⟨rfl, hA, hk2⟩
  · have e0 : min d.size (n * 32) = n * 32 := by omega
    have hA : Arr w1 p g cap (wrL l lba n (nums d)) :=
      h.change hk1 (hB1.congr (fun i hi => by
        rw [wrL_get (by omega)]
        by_cases e : lba * 32 ≤ i ∧ i < (lba + n) * 32
        · rw [if_pos e, if_pos (by omega)]
        · rw [if_neg e, if_neg (by omega)])) (wrL_len (by omega)) (wrL_b8 h.b8 (nums_b8 d))
    rw [e0] at hcp
    have hcl := clear_none w1
    have d1 : n * 32 ≤ cap - lba * 32 := by omega
    generalize cap - lba * 32 = C at *
    generalize lba * 32 = A at *
    generalize n * 32 = M at *
    clear h hl hN hr hb hB1 hrm hnd e0 hlt hkm
    by_cases d2 : C = M
    · subst d2
      go_enter Tryz.func17, Tryz.ntmps17
      go_wp2_with fail
      refine hc.mono ?_
      rintro e wz ⟨rfl, e0⟩
      have e0 := e0.symm
      subst e0
      go_wp2_with fail
      refine hp.mono ?_
      rintro e wz ⟨rfl, e0⟩
      have e0 := e0.symm
      subst e0
      go_wp2_with fail
      go_ret
      exact ⟨rfl, hA, hk1⟩
    · go_enter Tryz.func17, Tryz.ntmps17
      go_wp2_with fail
      refine hc.mono ?_
      rintro e wz ⟨rfl, e0⟩
      have e0 := e0.symm
      subst e0
      go_wp2_with fail
      refine hp.mono ?_
      rintro e wz ⟨rfl, e0⟩
      have e0 := e0.symm
      subst e0
      go_wp2_with fail
      go_ret
      exact ⟨rfl, hA, hk1⟩
end Tg
end Go.Proofs.YtjgnajopomadpaaGreat
