/-
  New of the document's own flash: any size that may be.
-/
import Derived.Test.YtjafjofonckaaaaRefProg
import Derived.Test.YtjafjofonckaaaaData
namespace Go.Proofs.Ytjafjofonckaaaa
open Go.ChangeShapes Go.WideShapes Go.ChangeAt Go.RowKit
namespace Nd

theorem info4 : (Try.prog.info? 4).map (fun i => (i.zero, i.size, i.bytes)) = some (some (.bool false), 1, 1) := by kernel_rfl
theorem info3 : (Try.prog.info? 3).map (fun i => (i.zero, i.size, i.bytes)) = some (some (.int .i64 0), 1, 8) := by kernel_rfl
theorem make_bools (n : Nat) (hn : n ≤ 64) (w : World) : (Instr.makeSlice 45 (.int .i64 (n : Int)) (.int .i64 (n : Int))).run Try.prog w = .ok (.slice (some ⟨w.heap.size, 0, none⟩) n n) (w.alloc (.cells (madeCells #[.bool false] n) 4)) :=
  run_make_row' (P := Try.prog) 45 4 (.bool false) 1 Try.underlying45 info4 rfl .i64 .i64 n (by omega) (by omega) w
theorem make_ints (n : Nat) (hn : n ≤ 64) (w : World) : (Instr.makeSlice 46 (.int .i64 (n : Int)) (.int .i64 (n : Int))).run Try.prog w = .ok (.slice (some ⟨w.heap.size, 0, none⟩) n n) (w.alloc (.cells (madeCells #[.int .i64 0] n) 3)) :=
  run_make_row' (P := Try.prog) 46 3 (.int .i64 0) 8 Try.underlying46 info3 rfl .i64 .i64 n (by omega) (by omega) w
theorem blk_madeV (w : World) (v : Value) (t : TypeId) (n : Nat) : Blk (w.alloc (.cells (madeCells #[v] n) t)) w.heap.size n (fun _ => v) := fun i hi =>
  ⟨(World.rowIs_made w v n t).cell hi, (World.rowIs_made w v n t).frozen i⟩

/-- The struct while it is being made: which rows are there already. -/
def newCell (B P M p k : Nat) : Nat → Value
  | 0 => .int .i64 B
  | 1 => .int .i64 P
  | 2 => if 1 ≤ k then .slice (some ⟨p + 1, 0, none⟩) M M else .slice none 0 0
  | 3 => if 2 ≤ k then .slice (some ⟨p + 2, 0, none⟩) B B else .slice none 0 0
  | 4 => if 3 ≤ k then .slice (some ⟨p + 3, 0, none⟩) B B else .slice none 0 0
  | 5 => if 4 ≤ k then .slice (some ⟨p + 4, 0, none⟩) B B else .slice none 0 0
  | 6 => .int .i64 (-1)
  | 7 => .int .i64 (-1)
  | 8 => .bool true
  | _ => .int .i64 0

theorem rnew_any {w : World} {B P : Nat} (b2 : B ≤ 64) (p2 : P ≤ 32) :
    Calls Try.prog 16 #[.int .i64 B, .int .i64 P] w fun e w' => ∃ l : Pl, e = .returned (.pointer (some ⟨l.p, 0, none⟩)) ∧ RM w' l (Fl.new B P) (-1) ∧ (∀ x, l.own x → w.heap.size ≤ x) ∧ Keep (fun _ => False) w w' := by
  have hm : B * P ≤ 64 * 32 := Nat.mul_le_mul b2 p2
  have hk1 := make_bytes (B * P * 68) (by omega)
  have hk2 := make_bools B b2
  have hk3 := make_ints B b2
  have i1 : ((B : Int) * (P : Int)) * 68 = ((B * P * 68 : Nat) : Int) := by simp
  have i2 : (B : Int) * (P : Int) ≤ 2048 := by have : ((B * P : Nat) : Int) ≤ 2048 := by omega
                                               simpa using this
  have i3 : 0 ≤ (B : Int) * (P : Int) := by have : (0 : Int) ≤ ((B * P : Nat) : Int) := by omega
                                            simpa using this
  have hN : B * P * 68 ≤ 139264 := by omega
  obtain ⟨M, HM⟩ : ∃ M, Hid (M = B * P * 68) := ⟨_, rfl⟩
  rw [← HM.out] at hk1 i1 hN
  clear hm
  have hP0 : Blk ((w.alloc (.cells #[.int .i64 (B : Int), .int .i64 (P : Int), .slice (some ⟨w.heap.size + 1, 0, none⟩) M M, .slice none 0 0, .slice none 0 0, .slice none 0 0, .int .i64 (-1), .int .i64 (-1), .bool true, .int .i64 0, .int .i64 0, .int .i64 0] 48)).alloc (.cells (madeCells #[.int .u8 0] M) 5)) w.heap.size 12 (newCell B P M w.heap.size 1) := by
    refine (blk_alloc _ _ _ _ _ rfl (fun i hi => ?_)).alloc _
    rcases ref_split hi with rfl | rfl | rfl | rfl | rfl | rfl | rfl | rfl | rfl | rfl | rfl | rfl <;> rfl
  have hY0 := blk_made (w.alloc (.cells #[.int .i64 (B : Int), .int .i64 (P : Int), .slice (some ⟨w.heap.size + 1, 0, none⟩) M M, .slice none 0 0, .slice none 0 0, .slice none 0 0, .int .i64 (-1), .int .i64 (-1), .bool true, .int .i64 0, .int .i64 0, .int .i64 0] 48)) 5 M
  rw [World.size_alloc] at hY0
  have hK0 : Keep (fun _ => False) w ((w.alloc (.cells #[.int .i64 (B : Int), .int .i64 (P : Int), .slice (some ⟨w.heap.size + 1, 0, none⟩) M M, .slice none 0 0, .slice none 0 0, .slice none 0 0, .int .i64 (-1), .int .i64 (-1), .bool true, .int .i64 0, .int .i64 0, .int .i64 0] 48)).alloc (.cells (madeCells #[.int .u8 0] M) 5)) := ((Keep.refl _ _).alloc _).alloc _
  have hS0 : ((w.alloc (.cells #[.int .i64 (B : Int), .int .i64 (P : Int), .slice (some ⟨w.heap.size + 1, 0, none⟩) M M, .slice none 0 0, .slice none 0 0, .slice none 0 0, .int .i64 (-1), .int .i64 (-1), .bool true, .int .i64 0, .int .i64 0, .int .i64 0] 48)).alloc (.cells (madeCells #[.int .u8 0] M) 5)).heap.size = w.heap.size + 2 := by simp
  go_enter Try.func16, Try.ntmps16
  go_wp2_with fail
  go_loopw [6] (fun i wr => ∃ q : Nat, q ≤ M ∧ i = .int .i64 q ∧ Blk wr w.heap.size 12 (newCell B P M w.heap.size 1) ∧ Blk wr (w.heap.size + 1) M (fun i => if i < q then .int .u8 255 else .int .u8 0) ∧ Keep (fun _ => False) w wr ∧ Hid (wr.heap.size = w.heap.size + 2)) (fun i _ => M - (intOf i).toNat)
  case atStart => exact ⟨0, by omega, rfl, hP0, hY0, hK0, hS0⟩
  case round =>
    obtain ⟨q, hq, rfl, hp, hy, hk, hs⟩ := hrel
    clear hP0 hY0 hK0 hS0
    have c2 : wr.cell? ⟨w.heap.size, 2, none⟩ = some (.slice (some ⟨w.heap.size + 1, 0, none⟩) M M) := (hp 2 (by omega)).1
    by_cases hlt : q < M
    · obtain ⟨hc, hf⟩ := hy q hlt
      simp only [if_neg (show ¬ q < q by omega)] at hc
      have HP := hp.other (a := ⟨w.heap.size + 1, q, none⟩) (by simp) (.int .u8 255)
      have HY := hy.set q (.int .u8 255)
      have HK : Keep (fun _ => False) w (wr.setCell ⟨w.heap.size + 1, q, none⟩ (.int .u8 255)) := hk.setCell (Or.inr (by simp)) _
      have HS : Hid ((wr.setCell ⟨w.heap.size + 1, q, none⟩ (.int .u8 255)).heap.size = w.heap.size + 2) := by
        show _ = _
        have := hs.out
        simp [World.setCell, this]
      clear hp hy hk hs
      go_wp2_with fail
      go_roundw
      case rel => exact ⟨q + 1, by omega, by go_num, HP, HY.congr (fun i _ => by (repeat' split) <;> first | rfl | omega), HK, HS⟩
      case measure => simp [intOf]; omega
    · obtain rfl : q = M := by omega
      have d3 : wr.cell? ⟨w.heap.size, 3, none⟩ = some (.slice none 0 0) := (hp 3 (by omega)).1
      have d4 : wr.cell? ⟨w.heap.size, 4, none⟩ = some (.slice none 0 0) := (hp 4 (by omega)).1
      have d5 : wr.cell? ⟨w.heap.size, 5, none⟩ = some (.slice none 0 0) := (hp 5 (by omega)).1
      have z3 := (hp 3 (by omega)).2
      have z4 := (hp 4 (by omega)).2
      have z5 := (hp 5 (by omega)).2
      have hsz := hs.out
      have hlt2 : w.heap.size < wr.heap.size := by omega
      have HP := (((hp.set 3 (.slice (some ⟨w.heap.size + 2, 0, none⟩) B B)).set 4 (.slice (some ⟨w.heap.size + 2 + 1, 0, none⟩) B B)).set 5 (.slice (some ⟨w.heap.size + 2 + 1 + 1, 0, none⟩) B B)).congr
        (g := refCell ⟨w.heap.size, w.heap.size + 1, w.heap.size + 2, w.heap.size + 2 + 1, w.heap.size + 2 + 1 + 1⟩ (Fl.new B P) (-1))
        (fun i hi => by rcases ref_split hi with rfl | rfl | rfl | rfl | rfl | rfl | rfl | rfl | rfl | rfl | rfl | rfl <;> simp [refCell, newCell, Fl.new, HM.out])
      have HY := (((hy.other (a := ⟨w.heap.size, 3, none⟩) (by simp) (.slice (some ⟨w.heap.size + 2, 0, none⟩) B B)).other (a := ⟨w.heap.size, 4, none⟩) (by simp) (.slice (some ⟨w.heap.size + 2 + 1, 0, none⟩) B B)).other (a := ⟨w.heap.size, 5, none⟩) (by simp) (.slice (some ⟨w.heap.size + 2 + 1 + 1, 0, none⟩) B B)).congr (g := fun _ => .int .u8 255) (fun i hi => by rw [if_pos hi])
      have HK : Keep (fun _ => False) w (((wr.setCell ⟨w.heap.size, 3, none⟩ (.slice (some ⟨w.heap.size + 2, 0, none⟩) B B)).setCell ⟨w.heap.size, 4, none⟩ (.slice (some ⟨w.heap.size + 2 + 1, 0, none⟩) B B)).setCell ⟨w.heap.size, 5, none⟩ (.slice (some ⟨w.heap.size + 2 + 1 + 1, 0, none⟩) B B)) := ((hk.setCell (Or.inr (by simp)) _).setCell (Or.inr (by simp)) _).setCell (Or.inr (by simp)) _
      have HZ : (((wr.setCell ⟨w.heap.size, 3, none⟩ (.slice (some ⟨w.heap.size + 2, 0, none⟩) B B)).setCell ⟨w.heap.size, 4, none⟩ (.slice (some ⟨w.heap.size + 2 + 1, 0, none⟩) B B)).setCell ⟨w.heap.size, 5, none⟩ (.slice (some ⟨w.heap.size + 2 + 1 + 1, 0, none⟩) B B)).heap.size = w.heap.size + 2 := by simp [World.setCell, hsz]
      have HRM : RM ((((((wr.setCell ⟨w.heap.size, 3, none⟩ (.slice (some ⟨w.heap.size + 2, 0, none⟩) B B)).setCell ⟨w.heap.size, 4, none⟩ (.slice (some ⟨w.heap.size + 2 + 1, 0, none⟩) B B)).setCell ⟨w.heap.size, 5, none⟩ (.slice (some ⟨w.heap.size + 2 + 1 + 1, 0, none⟩) B B)).alloc (.cells (madeCells #[.bool false] B) 4)).alloc (.cells (madeCells #[.bool false] B) 4)).alloc (.cells (madeCells #[.int .i64 0] B) 3)) ⟨w.heap.size, w.heap.size + 1, w.heap.size + 2, w.heap.size + 2 + 1, w.heap.size + 2 + 1 + 1⟩ (Fl.new B P) (-1) := by
        have q1 := blk_madeV (((wr.setCell ⟨w.heap.size, 3, none⟩ (.slice (some ⟨w.heap.size + 2, 0, none⟩) B B)).setCell ⟨w.heap.size, 4, none⟩ (.slice (some ⟨w.heap.size + 2 + 1, 0, none⟩) B B)).setCell ⟨w.heap.size, 5, none⟩ (.slice (some ⟨w.heap.size + 2 + 1 + 1, 0, none⟩) B B)) (.bool false) 4 B
        have q2 := blk_madeV ((((wr.setCell ⟨w.heap.size, 3, none⟩ (.slice (some ⟨w.heap.size + 2, 0, none⟩) B B)).setCell ⟨w.heap.size, 4, none⟩ (.slice (some ⟨w.heap.size + 2 + 1, 0, none⟩) B B)).setCell ⟨w.heap.size, 5, none⟩ (.slice (some ⟨w.heap.size + 2 + 1 + 1, 0, none⟩) B B)).alloc (.cells (madeCells #[.bool false] B) 4)) (.bool false) 4 B
        have q3 := blk_madeV (((((wr.setCell ⟨w.heap.size, 3, none⟩ (.slice (some ⟨w.heap.size + 2, 0, none⟩) B B)).setCell ⟨w.heap.size, 4, none⟩ (.slice (some ⟨w.heap.size + 2 + 1, 0, none⟩) B B)).setCell ⟨w.heap.size, 5, none⟩ (.slice (some ⟨w.heap.size + 2 + 1 + 1, 0, none⟩) B B)).alloc (.cells (madeCells #[.bool false] B) 4)).alloc (.cells (madeCells #[.bool false] B) 4)) (.int .i64 0) 3 B
        simp only [World.size_alloc, HZ] at q1 q2 q3
        refine ⟨((HP.alloc _).alloc _).alloc _, ?_, (q1.alloc _).alloc _, q2.alloc _, q3, ⟨?_, ?_, ?_, ?_, ?_, ?_, ?_, ?_, ?_, ?_⟩⟩
        · have := ((HY.alloc (.cells (madeCells #[.bool false] B) 4)).alloc (.cells (madeCells #[.bool false] B) 4)).alloc (.cells (madeCells #[.int .i64 0] B) 3)
          rw [HM.out] at this
          exact this
        all_goals (simp only []; omega)
      clear hp hy hk HP HY
      go_wp2_with fail
      go_ret
      exact ⟨_, rfl, HRM, fun x hx => by rcases hx with rfl | rfl | rfl | rfl | rfl <;> simp only [] <;> omega, ((HK.alloc _).alloc _).alloc _⟩
end Nd
end Go.Proofs.Ytjafjofonckaaaa
