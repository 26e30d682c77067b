/-
  What New and Free answer and lay: walked over any memory.
-/
import Derived.Test.YtbdankhlbepjoaaCalls
namespace Go.Proofs.Ytbdankhlbepjoaa
open Go.ChangeShapes Go.WideShapes Go.ChangeAt Go.RowKit
namespace Tg

theorem info53 : (Try.prog.info? 84).map (fun i => (i.zero, i.size, i.bytes)) = some (some (.agg #[.int .u32 0, .int .u32 0, .int .i64 0, .int .i64 0, .int .i64 0, .int .i64 0, .bool false, .int .u32 0]), 8, 48) := by kernel_rfl

def slot0 : Array Value := #[.int .u32 0, .int .u32 0, .int .i64 0, .int .i64 0, .int .i64 0, .int .i64 0, .bool false, .int .u32 0]

theorem make_slots (n : Nat) (hn : n ≤ 512) (w : World) : (Instr.makeSlice 77 (.int .i64 (n : Int)) (.int .i64 (n : Int))).run Try.prog w =
    .ok (.slice (some ⟨w.heap.size, 0, none⟩) n n) (w.alloc (.cells (madeCells slot0 (n * 8)) 84)) := by
  obtain ⟨i, hi, hz0, hz1, hz2⟩ := info_parts info53
  have := run_make (P := Try.prog) w 77 84 i _ Try.underlying77 hi hz0 .i64 .i64 n n (by omega) (by omega) (by rw [hz2]; omega) (by omega)
  rw [this, hz1]
  simp [Value.cells, slot0]

/-- An arena whose first q nodes are linked. -/
def Ar.part (n q : Nat) : Ar := { N := n, first := 1, count := 0, fld := fun _ _ => 0, live := fun _ => false, next := fun x => if x ≤ q then x + 1 else 0 }

theorem blk_slots (w : World) (n : Nat) : Blk (w.alloc (.cells (madeCells slot0 (n * 8)) 84)) w.heap.size (n * 8) (Ar.part n 0).cell := by
  refine blk_alloc _ _ _ _ _ (fun i hi => ?_)
  simp [madeCells, hi, slot0]
  have h8 : i % 8 = 0 ∨ i % 8 = 1 ∨ i % 8 = 2 ∨ i % 8 = 3 ∨ i % 8 = 4 ∨ i % 8 = 5 ∨ i % 8 = 6 ∨ i % 8 = 7 := by omega
  rcases h8 with h | h | h | h | h | h | h | h <;> simp [h, Ar.cell, Ar.part, nval]

theorem Mem.setNext {w : World} {p k : Nat} {s : Ar} (h : Mem w p k s) (q v : Nat) : Mem (w.setCell ⟨k, q * 8 + 7, none⟩ (.int .u32 v)) p k { s with next := fun y => if y = q + 1 then v else s.next y } := by
  refine ⟨h.top.other (a := ⟨k, _, none⟩) h.ne _, (h.blk.set _ _).congr (fun i _ => ?_), h.ne⟩
  unfold Ar.cell
  by_cases e : i = q * 8 + 7
  · subst e
    rw [if_pos rfl, if_neg (by omega), if_neg (by omega)]
    simp only [if_pos (show (q * 8 + 7) / 8 + 1 = q + 1 by omega)]
  · rw [if_neg e]
    by_cases h6 : i % 8 < 6
    · rw [if_pos h6, if_pos h6]
    · by_cases h7 : i % 8 = 6
      · rw [if_neg h6, if_neg h6, if_pos h7, if_pos h7]
      · rw [if_neg h6, if_neg h6, if_neg h7, if_neg h7]
        simp only [if_neg (show ¬ i / 8 + 1 = q + 1 by omega)]

theorem new_no {w : World} {n : Int} (h : n < 1 ∨ 512 < n) :
    Calls Try.prog 38 #[.int .i64 n] w fun e w' => e = .returned (.tuple #[.pointer none, .int .i64 1]) ∧ w' = w := by
  by_cases h1 : n < 1
  · go_enter Try.func38, Try.ntmps38
    go_wp2_with fail
    go_ret2
    exact ⟨rfl, rfl⟩
  · have h2 : 512 < n := by omega
    go_enter Try.func38, Try.ntmps38
    go_wp2_with fail
    go_ret2
    exact ⟨rfl, rfl⟩

set_option maxHeartbeats 600000 in
theorem new_any {w : World} {n : Nat} (h1 : 1 ≤ n) (h2 : n ≤ 512) :
    Calls Try.prog 38 #[.int .i64 (n : Int)] w fun e w' => ∃ p k, e = .returned (.tuple #[.pointer (some ⟨p, 0, none⟩), .int .i64 0]) ∧ Mem w' p k (Ar.new n) ∧ w.heap.size ≤ p ∧ w.heap.size ≤ k ∧ Keep (fun _ => False) w w' := by
  have hmk := make_slots n h2 w
  have hk := (blk_slots w n).alloc (.cells #[.slice (some ⟨w.heap.size, 0, none⟩) n n, .int .u32 1, .int .i64 0] 80)
  have hp : Blk ((w.alloc (.cells (madeCells slot0 (n * 8)) 84)).alloc (.cells #[.slice (some ⟨w.heap.size, 0, none⟩) n n, .int .u32 1, .int .i64 0] 80)) (w.heap.size + 1) 3 ((Ar.part n 0).top w.heap.size) := by
    have := blk_alloc (w.alloc (.cells (madeCells slot0 (n * 8)) 84)) #[.slice (some ⟨w.heap.size, 0, none⟩) n n, .int .u32 1, .int .i64 0] 80 3 ((Ar.part n 0).top w.heap.size) (fun i hi => by rcases three hi with rfl | rfl | rfl <;> rfl)
    simpa using this
  have hm : Mem _ (w.heap.size + 1) w.heap.size (Ar.part n 0) := ⟨hp, hk, by omega⟩
  have hK : Keep (fun b => b = w.heap.size) w ((w.alloc (.cells (madeCells slot0 (n * 8)) 84)).alloc (.cells #[.slice (some ⟨w.heap.size, 0, none⟩) n n, .int .u32 1, .int .i64 0] 80)) := ((Keep.refl _ _).alloc _).alloc _
  have n1 : ¬ (n : Int) < 1 := by omega
  have n2 : ¬ (512 : Int) < n := by omega
  have dn : IntKind.i64.wrap ((n : Int) - 1) = (n : Int) - 1 := by rw [IntKind.wrap_i64]; omega
  clear hp hk
  go_enter Try.func38, Try.ntmps38
  go_wp2_with fail
  go_loopw [18] (fun i wr => ∃ q : Nat, q + 1 ≤ n ∧ i = .int .i64 q ∧ Mem wr (w.heap.size + 1) w.heap.size (Ar.part n q) ∧ Keep (fun b => b = w.heap.size) w wr) (fun i _ => n - (intOf i).toNat)
  case atStart => exact ⟨0, by omega, rfl, hm, hK⟩
  case round =>
    obtain ⟨q, hq, rfl, hmq, hkq⟩ := hrel
    clear hm hK hmk
    have t0 : wr.cell? ⟨w.heap.size + 1, 0, none⟩ = some (.slice (some ⟨w.heap.size, 0, none⟩) n n) := hmq.tops.1
    by_cases hlt : q + 1 < n
    · have c7 : wr.cell? ⟨w.heap.size, q * 8 + 7, none⟩ = some (.int .u32 ((Ar.part n q).next (q + 1))) := (hmq.at (q := q) (by show q < n; omega)).2.1
      have g7 : wr.frozen? ⟨w.heap.size, q * 8 + 7, none⟩ = false := (hmq.at (q := q) (by show q < n; omega)).2.2
      have hm2 := hmq.setNext q (q + 2)
      have hk2 : Keep (fun b => b = w.heap.size) w (wr.setCell ⟨w.heap.size, q * 8 + 7, none⟩ (.int .u32 ((q + 2 : Nat) : Int))) := hkq.setCell (Or.inl rfl) _
      rw [show ((q + 2 : Nat) : Int) = (q : Int) + 2 from rfl] at hm2 hk2
      have d1 : (q : Int) < (n : Int) - 1 := by omega
      have d2 : (q : Int) < (n : Int) := by omega
      clear hmq hkq
      go_wp2_with fail
      go_roundw
      case rel => exact ⟨q + 1, by omega, by go_num, hm2.congr (by simp only [Ar.part]; congr 1; funext y; by_cases e : y = q + 1; (rw [if_pos e, if_pos (by omega)]; omega); (rw [if_neg e]; by_cases e2 : y ≤ q; (rw [if_pos e2, if_pos (by omega)]); (rw [if_neg e2, if_neg (by omega)]))), hk2⟩
      case measure => simp [intOf]; omega
    · obtain rfl : n = q + 1 := by omega
      have d1 : ¬ (q : Int) < ((q + 1 : Nat) : Int) - 1 := by omega
      clear hlt t0
      go_wp2_with fail
      go_ret2
      refine ⟨_, rfl, _, hmq.congr ?_, by omega, by omega, hkq.mono (fun x hx e => by omega)⟩
      simp only [Ar.part, Ar.new]
      congr 1
      funext y
      by_cases e : y ≤ q
      · rw [if_pos e, if_pos (by omega)]
      · rw [if_neg e, if_neg (by omega)]
end Tg
end Go.Proofs.Ytbdankhlbepjoaa
