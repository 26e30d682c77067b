/-
  What Encode answers: the page's bytes, in new memory; a kind that is none of the three is refused.
-/
import Derived.Test.YtgohmjidbbecpaaParts
import Derived.Deep.RegionHeld3
namespace Go.Proofs.Ytgohmjidbbecpaa
open Go.ChangeShapes Go.WideShapes Go.ChangeAt Go.RowKit
namespace Tg
open Crc
theorem Keep.next {S T : Nat → Prop} {a b c : World} (h : Keep S a b) (k : Keep T b c) (e : ∀ x, x < a.heap.size → T x → S x) : Keep S a c :=
  ⟨k.os.trans h.os, k.tape.trans h.tape, k.output.trans h.output, Nat.le_trans h.size k.size, fun i hi hs => (k.block i (Nat.lt_of_lt_of_le hi h.size) (fun t => hs (e i hi t))).trans (h.block i hi hs)⟩

/-- A copy whose run is known, as one step of a region that draws. -/
theorem step_copy_run {P : Program} {ops : Array Oper} {o : Oper} {a : Act} {w : World} {K : Act → World → Prop} {Q : Exit → Act → World → Prop} {E : Prop}
    (hg : o.guard = none) (d s : Operand) (t : TypeId) (hop : o.op = Op.call { callee := Callee.builtin Builtin.copy, args := #[d, s], argTypes := #[t, t] })
    {v1 v2 v' : Value} {w' : World} (hd : a.eval d = v1) (hs : a.eval s = v2) (hrun : (Builtin.copy_ #[t, t] o.type #[v1, v2]).run P w = .ok v' w')
    (hK : K (a.put o.dst v') w') : if Region.wanted o (yielded ops a.tmps) = true then Oper.wp P o a w K Q else E := by
  have hw : Region.wanted o (yielded ops a.tmps) = true := by simp [Region.wanted, hg]
  rw [if_pos hw]
  unfold Oper.wp
  simp [execOp, hop, resolve, invoke, builtin, hd, hs, hrun, Result.andThen]
  exact hK

theorem size5 : (Try.prog.info? 5).map (·.size) = some 1 := by kernel_rfl

/-- Bytes are copied from one block into another. -/
theorem run_copy {w : World} {c g N M : Nat} {f f2 : Nat → Value} {dd : Nat → Int} (h : Blk w c N f) (h2 : Blk w g M f2) (o oo n : Nat) (hn : o + n ≤ N) (hm : oo + n ≤ M) (hd : ∀ i, i < n → f2 (oo + i) = .int .u8 (dd i))
    (dLen dCap sLen sCap : Nat) (hl : Nat.min sLen dLen = n) :
    (Builtin.copy_ #[23, 23] 3 #[.slice (some ⟨c, o, none⟩) dLen dCap, .slice (some ⟨g, oo, none⟩) sLen sCap]).run Try.prog w = .ok (.int .i64 n) (w.setCells c o ((List.range n).map fun i => .int .u8 (dd i))) := by
  have := run_copy_cells (P := Try.prog) w 23 23 3 5 c o dLen dCap ⟨g, oo, none⟩ sLen sCap ((List.range n).map fun i => .int .u8 (dd i)) Try.underlying23 size5 (by simp [hl])
    (fun j v hv => by
      have hj : j < n := by have := (List.getElem?_eq_some_iff.1 hv).1; simpa using this
      rw [Addr.add_lit, (h2 (oo + j) (by omega)).1, hd _ (by omega), ← hv]; simp [hj])
    (fun j hj => by simp at hj; rw [(h (o + j) (by omega)).1]; rfl) (fun j hj => by simp at hj; exact (h (o + j) (by omega)).2) (fun v hv => by simp at hv; obtain ⟨_, _, rfl⟩ := hv; rfl)
  rw [this]; simp [goInt]

/-- A page's 39 cells. -/
def pcell (k : Int) (v d : Nat → Int) (i : Nat) : Value := if i = 0 then .int .i64 k else if i < 7 then .int .u32 (v (i - 1)) else .int .u8 (d (i - 7))
def pageA (k : Int) (v d : Nat → Int) : Array Value := ((List.range 39).map (pcell k v d)).toArray
theorem pageA_size (k : Int) (v d : Nat → Int) : (pageA k v d).size = 39 := by simp [pageA]
theorem blk_alloc (w : World) (A : Array Value) (t : TypeId) (n : Nat) (f : Nat → Value) (h : ∀ i, i < n → A[i]? = some (f i)) : Blk (w.alloc (.cells A t)) w.heap.size n f := by
  intro i hi
  refine ⟨?_, ?_⟩
  · rw [World.cell?_alloc_mark]; exact h i hi
  · exact World.frozen?_alloc_new w A t i
theorem pageA_get (k : Int) (v d : Nat → Int) (i : Nat) (hi : i < 39) : (pageA k v d)[i]? = some (pcell k v d i) := by simp [pageA, hi]
theorem blk_made (w : World) (t : TypeId) (n : Nat) : Blk (w.alloc (.cells (madeCells #[.int .u8 0] n) t)) w.heap.size n (fun _ => .int .u8 0) := fun i hi =>
  ⟨(World.rowIs_made w (.int .u8 0) n t).cell hi, (World.rowIs_made w (.int .u8 0) n t).frozen i⟩
theorem make_bytes (n : Nat) (hn : n ≤ 139264) (w : World) : (Instr.makeSlice 23 (.int .i64 (n : Int)) (.int .i64 (n : Int))).run Try.prog w = .ok (.slice (some ⟨w.heap.size, 0, none⟩) n n) (w.alloc (.cells (madeCells #[.int .u8 0] n) 5)) :=
  run_make_row' (P := Try.prog) 23 5 (.int .u8 0) 1 Try.underlying23 info5 rfl .i64 .i64 n (by omega) (by omega) w

/-- A page's first 60 bytes, as far as the first m numbers are laid. -/
def part (k : Int) (v : Nat → Int) (m i : Nat) : Int := if i = 0 then k else if i < 4 then 0 else if i < 4 + 4 * m then le (v ((i - 4) / 4)) ((i - 4) % 4) else 0
/-- A page's bytes but the sum and the mark. -/
def plain (k : Int) (v d : Nat → Int) (i : Nat) : Int := if i < 28 then part k v 6 i else if i < 60 then d (i - 28) else 0
def psum (k : Int) (v d : Nat → Int) : Int := val (more 0#32 (tab 60 (plain k v d)))
def mark (i : Nat) : Int := if i = 0 then 68 else if i = 1 then 79 else if i = 2 then 78 else 69
/-- A page's bytes. -/
def ebyte (k : Int) (v d : Nat → Int) (i : Nat) : Int := if i < 60 then plain k v d i else if i < 64 then le (psum k v d) (i - 60) else mark (i - 64)

/-- What Encode has laid so far: the page in block p, bytes in block g. -/
structure Est (w : World) (p g : Nat) (k : Int) (v d : Nat → Int) (f : Nat → Int) (wr : World) : Prop where
  page : Blk wr p 39 (pcell k v d)
  row : Blk wr g 68 (fun i => .int .u8 (f i))
  keep : Keep (fun _ => False) w wr
  new : w.heap.size ≤ p
  ne : p < g

theorem Est.drew {w wr : World} {p g : Nat} {k : Int} {v d f : Nat → Int} (h : Est w p g k v d f wr) : Est w p g k v d f wr.drew := ⟨h.page.drew, h.row.drew, h.keep.drew, h.new, h.ne⟩

theorem Est.put {w wr : World} {p g : Nat} {k : Int} {v d f f' : Nat → Int} (h : Est w p g k v d f wr) {o len cap : Nat} (x : Int) (hl : 4 ≤ len) (hn : o + 4 ≤ 68) (hf : ∀ i, i < 68 → f' i = if o ≤ i ∧ i < o + 4 then le x (i - o) else f i) :
    Calls Try.prog 19 #[.slice (some ⟨g, o, none⟩) len cap, .int .u32 x] wr fun e w' => e = .returned (.tuple #[]) ∧ Est w p g k v d f' w' := by
  refine (put_any h.row x hl hn).mono ?_
  rintro e w' ⟨rfl, hb, hk⟩
  have := h.ne
  have h1 := h.new
  refine ⟨rfl, h.page.keep hk (by omega), hb.congr (fun i hi => ?_), h.keep.next hk (fun x hx e => by omega), h.new, h.ne⟩
  rw [hf i hi]
  split <;> rfl

theorem Est.cell {w wr : World} {p g : Nat} {k : Int} {v d f : Nat → Int} (h : Est w p g k v d f wr) (i : Nat) (hi : i < 6) : wr.cell? ⟨p, i + 1, none⟩ = some (.int .u32 (v i)) := by
  rw [(h.page (i + 1) (by omega)).1, pcell, if_neg (by omega), if_pos (by omega), Nat.add_sub_cancel]

theorem part_put (k : Int) (v : Nat → Int) (m i o : Nat) (ho : o = 4 + 4 * m) : part k v (m + 1) i = if o ≤ i ∧ i < o + 4 then le (v m) (i - o) else part k v m i := by
  subst ho
  unfold part
  by_cases h0 : i = 0
  · rw [if_pos h0, if_pos h0, if_neg (by omega)]
  by_cases h4 : i < 4
  · rw [if_neg h0, if_neg h0, if_pos h4, if_pos h4, if_neg (by omega)]
  rw [if_neg h0, if_neg h0, if_neg h4, if_neg h4]
  by_cases h5 : i < 4 + 4 * m
  · rw [if_pos (by omega), if_neg (by omega), if_pos h5]
  · by_cases h6 : i < 4 + 4 * m + 4
    · rw [if_pos (by omega), if_pos (by omega), show (i - 4) / 4 = m by omega, show (i - 4) % 4 = i - (4 + 4 * m) by omega]
    · rw [if_neg (by omega), if_neg (by omega), if_neg (by omega)]

theorem Est.num {w wr : World} {p g : Nat} {k : Int} {v d : Nat → Int} {m : Nat} (h : Est w p g k v d (part k v m) wr) {o len cap : Nat} (hl : 4 ≤ len) (ho : o = 4 + 4 * m) (hm : m < 6) :
    Calls Try.prog 19 #[.slice (some ⟨g, o, none⟩) len cap, .int .u32 (v m)] wr fun e w' => e = .returned (.tuple #[]) ∧ Est w p g k v d (part k v (m + 1)) w' :=
  h.put (v m) hl (by omega) (fun i _ => part_put k v m i o ho)

theorem part_bd (k : Int) (v : Nat → Int) (m i : Nat) (hk : 1 ≤ k ∧ k ≤ 3) : 0 ≤ part k v m i ∧ part k v m i ≤ 255 := by
  unfold part
  split
  · omega
  · split
    · omega
    · split
      · exact le_bd _ _
      · omega
theorem plain_bd (k : Int) (v d : Nat → Int) (hk : 1 ≤ k ∧ k ≤ 3) (hd : ∀ i, 0 ≤ d i ∧ d i ≤ 255) (i : Nat) : 0 ≤ plain k v d i ∧ plain k v d i ≤ 255 := by
  unfold plain
  split
  · exact part_bd k v 6 i hk
  · split
    · exact hd _
    · omega
theorem mark_bd (i : Nat) : 0 ≤ mark i ∧ mark i ≤ 255 := by unfold mark; split <;> (try split) <;> (try split) <;> omega
theorem ebyte_bd (k : Int) (v d : Nat → Int) (hk : 1 ≤ k ∧ k ≤ 3) (hd : ∀ i, 0 ≤ d i ∧ d i ≤ 255) (i : Nat) : 0 ≤ ebyte k v d i ∧ ebyte k v d i ≤ 255 := by
  unfold ebyte
  split
  · exact plain_bd k v d hk hd i
  · split
    · exact le_bd _ _
    · exact mark_bd _

/-- A text of four bytes is copied. -/
theorem run_copy_mark {w : World} {g : Nat} {f : Nat → Value} (h : Blk w g 68 f) :
    (Builtin.copy_ #[23, 9] 3 #[.slice (some ⟨g, 64, none⟩) 4 4, .string { data := #[68, 79, 78, 69] }]).run Try.prog w = .ok (.int .i64 4) (w.setCells g 64 ((List.range 4).map fun i => .int .u8 (mark i))) := by
  have hst := run_storeCells_cells (P := Try.prog) g 64 [.int .u8 68, .int .u8 79, .int .u8 78, .int .u8 69] 0 w (fun j hj => by simp at hj; rw [(h (64 + 0 + j) (by omega)).1]; rfl) (fun j hj => by simp at hj; exact (h (64 + 0 + j) (by omega)).2) (by simp [Value.oneCell'])
  have e : ((List.range 4).map fun i => Value.int .u8 (mark i)) = [.int .u8 68, .int .u8 79, .int .u8 78, .int .u8 69] := by rfl
  have e4 : ({ data := #[68, 79, 78, 69] } : ByteArray).size.min 4 = 4 := rfl
  rw [e]
  obtain ⟨i, hq, hz0, hz1, hz2⟩ := info_parts info5
  simp only [Builtin.copy_]
  simp [run_underlying Try.underlying23, Builtin.lenOf, Builtin.firstCells, sizeOf, typeInfo, hq, goInt, e4]
  rw [hst]; rfl

set_option maxHeartbeats 400000 in
theorem enc_any (k : Int) (v d : Nat → Int) (w : World) (hk : 1 ≤ k ∧ k ≤ 3) (hd : ∀ i, 0 ≤ d i ∧ d i ≤ 255) :
    Calls Try.prog 9 #[.agg (pageA k v d)] w fun e w' => ∃ g, e = .returned (.tuple #[.slice (some ⟨g, 0, none⟩) 68 68, .int .i64 0]) ∧ w.heap.size ≤ g ∧ Blk w' g 68 (fun i => .int .u8 (ebyte k v d i)) ∧ Keep (fun _ => False) w w' := by
  have hb := blk_alloc w _ 30 39 _ (pageA_get k v d)
  have hsz := pageA_size k v d
  generalize pageA k v d = A at hb hsz ⊢
  have hkd : decide (1 ≤ k ∧ k ≤ 3) = true := by simp; omega
  have h0 : (w.alloc (Obj.cells A 30)).cell? ⟨w.heap.size, 0, none⟩ = some (.int .i64 k) := (hb 0 (by omega)).1
  obtain ⟨w1, hmk, hs1⟩ : ∃ w1, (Instr.makeSlice 23 (.int .i64 68) (.int .i64 68)).run Try.prog (w.alloc (.cells A 30)) = .ok (.slice (some ⟨w.heap.size + 1, 0, none⟩) 68 68) w1 ∧ Est w w.heap.size (w.heap.size + 1) k v d (fun _ => 0) w1 := by
    refine ⟨(w.alloc (.cells A 30)).alloc (.cells (madeCells #[.int .u8 0] 68) 5), ?_, ?_⟩
    · have := make_bytes 68 (by omega) (w.alloc (.cells A 30))
      simp only [World.size_alloc] at this
      exact this
    · refine ⟨hb.alloc _, ?_, ((Keep.refl _ _).alloc _).alloc _, Nat.le_refl _, by omega⟩
      have := blk_made (w.alloc (.cells A 30)) 5 68
      simp only [World.size_alloc] at this
      exact this
  have h0' : w1.cell? ⟨w.heap.size, 0, none⟩ = some (.int .i64 k) := (hs1.page 0 (by omega)).1
  have h1' := (hs1.row 0 (by omega)).1
  have h2' := (hs1.row 0 (by omega)).2
  go_enter Try.func9, Try.ntmps9
  go_wp2_with (go_at_call 18; refine (known_any _ _).mono ?_; rintro e w' ⟨rfl, rfl⟩)
  have hs2 : Est w w.heap.size (w.heap.size + 1) k v d (part k v 0) (w1.setCell ⟨w.heap.size + 1, 0, none⟩ (.int .u8 k)) :=
    ⟨hs1.page.other (by simp) _, (hs1.row.set 0 _).congr (fun i hi => by unfold part; by_cases e : i = 0; (rw [if_pos e, if_pos e]); (rw [if_neg e, if_neg e]; by_cases e4 : i < 4; (rw [if_pos e4]); (rw [if_neg e4, if_neg (by omega)]))), hs1.keep.setCell (Or.inr (by simp)) _, hs1.new, hs1.ne⟩
  clear hmk h0' h1' h2' hs1 h0 hb
  generalize w1.setCell ⟨w.heap.size + 1, 0, none⟩ (.int .u8 k) = w2 at hs2 ⊢
  have hc0 := hs2.cell 0 (by omega)
  go_region_held3 (fun w' => w'.cell? ⟨w.heap.size, 1, none⟩ = some (.int .u32 (v 0))) (first | exact Est.cell (by assumption) 0 (by omega) | go_keep) ((go_at_call 19; refine (hs2.drew.num (o := 4) (len := 64) (cap := 64) (by omega) (by omega) (by omega)).mono ?_; rintro e w3 ⟨rfl, hs3⟩))
  clear hs2 hc0
  go_wp2_with fail
  have hc1 := hs3.cell 1 (by omega)
  go_region_held3 (fun w' => w'.cell? ⟨w.heap.size, 2, none⟩ = some (.int .u32 (v 1))) (first | exact Est.cell (by assumption) 1 (by omega) | go_keep) ((go_at_call 19; refine (hs3.drew.num (o := 8) (len := 60) (cap := 60) (by omega) (by omega) (by omega)).mono ?_; rintro e w4 ⟨rfl, hs4⟩))
  clear hs3 hc1
  go_wp2_with fail
  have hc2 := hs4.cell 2 (by omega)
  go_region_held3 (fun w' => w'.cell? ⟨w.heap.size, 3, none⟩ = some (.int .u32 (v 2))) (first | exact Est.cell (by assumption) 2 (by omega) | go_keep) ((go_at_call 19; refine (hs4.drew.num (o := 12) (len := 56) (cap := 56) (by omega) (by omega) (by omega)).mono ?_; rintro e w5 ⟨rfl, hs5⟩))
  clear hs4 hc2
  go_wp2_with fail
  have hc3 := hs5.cell 3 (by omega)
  go_region_held3 (fun w' => w'.cell? ⟨w.heap.size, 4, none⟩ = some (.int .u32 (v 3))) (first | exact Est.cell (by assumption) 3 (by omega) | go_keep) ((go_at_call 19; refine (hs5.drew.num (o := 16) (len := 52) (cap := 52) (by omega) (by omega) (by omega)).mono ?_; rintro e w6 ⟨rfl, hs6⟩))
  clear hs5 hc3
  go_wp2_with fail
  have hc4 := hs6.cell 4 (by omega)
  go_region_held3 (fun w' => w'.cell? ⟨w.heap.size, 5, none⟩ = some (.int .u32 (v 4))) (first | exact Est.cell (by assumption) 4 (by omega) | go_keep) ((go_at_call 19; refine (hs6.drew.num (o := 20) (len := 48) (cap := 48) (by omega) (by omega) (by omega)).mono ?_; rintro e w7 ⟨rfl, hs7⟩))
  clear hs6 hc4
  go_wp2_with fail
  have hc5 := hs7.cell 5 (by omega)
  go_region_held3 (fun w' => w'.cell? ⟨w.heap.size, 6, none⟩ = some (.int .u32 (v 5))) (first | exact Est.cell (by assumption) 5 (by omega) | go_keep) ((go_at_call 19; refine (hs7.drew.num (o := 24) (len := 44) (cap := 44) (by omega) (by omega) (by omega)).mono ?_; rintro e w8 ⟨rfl, hs8⟩))
  clear hs7 hc5
  go_wp2_with fail
  have hcp := run_copy (w := w8.drew) hs8.drew.row hs8.drew.page 28 7 32 (by omega) (by omega) (dd := d) (fun i hi => by unfold pcell; rw [if_neg (by omega), if_neg (by omega), show 7 + i - 7 = i by omega]) 40 40 32 32 rfl
  have hs9 : Est w w.heap.size (w.heap.size + 1) k v d (plain k v d) (w8.drew.setCells (w.heap.size + 1) 28 ((List.range 32).map fun i => .int .u8 (d i))) := by
    refine ⟨hs8.drew.page.otherCells (by simp) _ _, (hs8.drew.row.setCells 28 32 (fun i => .int .u8 (d i)) (by omega)).congr (fun i hi => ?_), hs8.drew.keep.setCells (Or.inr (by simp)) _ _, hs8.new, hs8.ne⟩
    unfold plain
    by_cases e : i < 28
    · rw [if_neg (by omega), if_pos e]
    · rw [if_neg e]
      by_cases e2 : i < 60
      · rw [if_pos (by omega), if_pos e2]
      · rw [if_neg (by omega), if_neg e2]
        unfold part
        rw [if_neg (by omega), if_neg (by omega), if_neg (by omega)]
  generalize w8.drew.setCells (w.heap.size + 1) 28 ((List.range 32).map fun i => .int .u8 (d i)) = w9 at hs9 hcp
  clear hs8
  go_region_held3 (fun _ => True) (trivial) (refine step_copy_run rfl (.tmp 46) (.tmp 48) 23 rfl (by rfl) (by rfl) hcp ?_)
  clear hcp
  go_wp2_with fail
  have hps := val_bd (more 0#32 (tab 60 (plain k v d)))
  have hsum := sum_any (some ⟨w.heap.size + 1, 0, none⟩) 60 68 (tab 60 (plain k v d)) w9.drew (by
    have := hs9.drew.row.row (plain_bd k v d hk hd) 0 60 68 (by omega) (by omega) (by omega)
    simpa using this)
  have hput := (hs9.drew.put (f' := fun i => if i < 60 then plain k v d i else if i < 64 then le (psum k v d) (i - 60) else 0) (o := 60) (len := 8) (cap := 8) (psum k v d) (by omega) (by omega) (fun i hi => by
    by_cases e : i < 60
    · rw [if_pos e, if_neg (by omega)]
    · rw [if_neg e]
      by_cases e2 : i < 64
      · rw [if_pos e2, if_pos (by omega)]
      · rw [if_neg e2, if_neg (by omega)]; unfold plain; rw [if_neg (by omega), if_neg e]))
  clear hs9
  go_region_held3 (fun _ => True) (trivial) (first | (go_at_call 20; refine hsum.mono ?_; rintro e wq ⟨rfl, rfl⟩) | (go_at_call 19; refine hput.mono ?_; rintro e w10 ⟨rfl, hs10⟩))
  clear hsum hput
  have hcm := run_copy_mark hs10.row
  have hs11 : Blk (w10.setCells (w.heap.size + 1) 64 ((List.range 4).map fun i => .int .u8 (mark i))) (w.heap.size + 1) 68 (fun i => .int .u8 (ebyte k v d i)) := by
    refine (hs10.row.setCells 64 4 (fun i => .int .u8 (mark i)) (by omega)).congr (fun i hi => ?_)
    unfold ebyte
    by_cases e : i < 60
    · rw [if_neg (by omega), if_pos e, if_pos e]
    · rw [if_neg e, if_neg e]
      by_cases e2 : i < 64
      · rw [if_neg (by omega), if_pos e2, if_pos e2]
      · rw [if_pos (by omega), if_neg e2]
  have hk11 : Keep (fun _ => False) w (w10.setCells (w.heap.size + 1) 64 ((List.range 4).map fun i => .int .u8 (mark i))) := hs10.keep.setCells (Or.inr (by simp)) _ _
  generalize w10.setCells (w.heap.size + 1) 64 ((List.range 4).map fun i => .int .u8 (mark i)) = w11 at hcm hs11 hk11
  clear hs10
  go_wp2_with fail
  go_ret2
  exact ⟨_, rfl, by omega, hs11, hk11⟩

theorem enc_no (k : Int) (v d : Nat → Int) (w : World) (hk : ¬ (1 ≤ k ∧ k ≤ 3)) :
    Calls Try.prog 9 #[.agg (pageA k v d)] w fun e w' => e = .returned (.tuple #[.slice none 0 0, .int .i64 1]) ∧ Keep (fun _ => False) w w' := by
  have hb := blk_alloc w _ 30 39 _ (pageA_get k v d)
  have hsz := pageA_size k v d
  generalize pageA k v d = A at hb hsz ⊢
  have hkd : decide (1 ≤ k ∧ k ≤ 3) = false := by simp; omega
  have h0 : (w.alloc (Obj.cells A 30)).cell? ⟨w.heap.size, 0, none⟩ = some (.int .i64 k) := (hb 0 (by omega)).1
  go_enter Try.func9, Try.ntmps9
  go_wp2_with (go_at_call 18; refine (known_any _ _).mono ?_; rintro e w' ⟨rfl, rfl⟩)
  go_ret2
  exact ⟨rfl, (Keep.refl _ _).alloc _⟩
end Tg
end Go.Proofs.Ytgohmjidbbecpaa
