/-
  What Give, Put and Get answer and do: walked over any memory in which an arena lies.
-/
import Derived.Test.YtbdankhlbepjoaaWalks
import Derived.Laws.ResultCell
namespace Go.Proofs.Ytbdankhlbepjoaa
open Go.ChangeShapes Go.WideShapes Go.ChangeAt Go.RowKit
namespace Tg

set_option maxHeartbeats 600000 in
theorem give_any {w : World} {p k : Nat} {s : Ar} (h : Mem w p k s) {q : Nat} (hq : q < s.N) (hN : s.N ≤ 512) (hl : s.live (q + 1) = true) (hc : 1 ≤ s.count ∧ s.count ≤ 512) :
    Calls Try.prog 68 #[.pointer (some ⟨p, 0, none⟩), .int .u32 ((q : Int) + 1)] w fun e w' => e = .returned (.int .i64 0) ∧ Mem w' p k (s.give (q + 1)) ∧ Keep (Own p k) w w' := by
  have hfind := find_yes h hq hN hl
  obtain ⟨t0, t1, t2, f1, f2⟩ := h.tops
  have hst := store_slot h.blk (o := q * 8) (by omega) false s.first
  have h2 := h.wipe hq false s.first
  have hk2 : Keep (Own p k) w (w.setCells k (q * 8) [.int .u32 0, .int .u32 0, .int .i64 0, .int .i64 0, .int .i64 0, .int .i64 0, .bool false, .int .u32 (s.first : Int)]) := (Keep.refl _ _).ks _ _
  generalize w.setCells k (q * 8) [.int .u32 0, .int .u32 0, .int .i64 0, .int .i64 0, .int .i64 0, .int .i64 0, .bool false, .int .u32 (s.first : Int)] = w2 at hst h2 hk2
  have h3 := h2.setFirst (q + 1)
  have hk3 := hk2.p 1 (.int .u32 ((q + 1 : Nat) : Int))
  rw [show ((q + 1 : Nat) : Int) = (q : Int) + 1 from rfl] at h3 hk3
  have u1 : w2.cell? ⟨p, 1, none⟩ = some (.int .u32 s.first) := (h2.top 1 (by omega)).1
  have uf : w2.frozen? ⟨p, 1, none⟩ = false := (h2.top 1 (by omega)).2
  have u2 : w2.cell? ⟨p, 2, none⟩ = some (.int .i64 s.count) := (h2.top 2 (by omega)).1
  have ug : w2.frozen? ⟨p, 2, none⟩ = false := (h2.top 2 (by omega)).2
  have h4 := h3.setCount (s.count - 1)
  have hk4 := hk3.p 2 (.int .i64 ((s.count - 1 : Nat) : Int))
  have dc : ((s.count - 1 : Nat) : Int) = (s.count : Int) - 1 := by omega
  rw [dc] at h4 hk4
  have dw : IntKind.i64.wrap ((s.count : Int) - 1) = (s.count : Int) - 1 := by rw [IntKind.wrap_i64]; omega
  clear h h2 h3 hk2 hk3 dc
  go_enter Try.func68, Try.ntmps68
  go_wp2_with (first | (go_at_call 75; refine hfind.mono ?_; rintro e w' ⟨rfl, rfl⟩) | (guard_target =~ wpList _ _ _ (Oper.mk _ (Op.store 84 _ _) _ _ _ _ :: _) _ _; refine wpList_store_run rfl 84 (.tmp 17) (.tmp 16) rfl (by rfl) (by rfl) hst ?_))
  go_ret
  exact ⟨rfl, h4.congr (by simp [Ar.give, Ar.wipe]), hk4⟩

set_option maxHeartbeats 600000 in
theorem give_no {w : World} {p k : Nat} {s : Ar} (h : Mem w p k s) {x : Nat} (hx : x ≤ 4294967295) (hN : s.N ≤ 512) (hl : ¬ (1 ≤ x ∧ x ≤ s.N ∧ s.live x = true)) :
    Calls Try.prog 68 #[.pointer (some ⟨p, 0, none⟩), .int .u32 (x : Int)] w fun e w' => e = .returned (.int .i64 1) ∧ w' = w := by
  have hfind := find_no h hx hN hl
  clear h hl
  go_enter Try.func68, Try.ntmps68
  go_wp2_with (go_at_call 75; refine hfind.mono ?_; rintro e w' ⟨rfl, rfl⟩)
  go_ret
  exact ⟨rfl, rfl⟩

theorem node_new (w : World) (n : Nat → Int) : Blk (w.alloc (.cells (nodeA n) 82)) w.heap.size 6 (fun j => nval j (n j)) := blk_alloc w _ 82 6 _ (nodeA_get n)

set_option maxHeartbeats 600000 in
theorem put_any {w : World} {p k : Nat} {s : Ar} (h : Mem w p k s) {q : Nat} (hq : q < s.N) (hN : s.N ≤ 512) (hl : s.live (q + 1) = true) (n : Nat → Int) :
    Calls Try.prog 69 #[.pointer (some ⟨p, 0, none⟩), .int .u32 ((q : Int) + 1), .agg (nodeA n)] w fun e w' => e = .returned (.int .i64 0) ∧ Mem w' p k (s.set (q + 1) n) ∧ Keep (Own p k) w w' := by
  have hb := node_new w n
  have h1 := h.alloc (.cells (nodeA n) 82)
  have hk1 : Keep (Own p k) w (w.alloc (.cells (nodeA n) 82)) := (Keep.refl _ _).alloc _
  have hfind := find_yes h1 hq hN hl
  have hld := loadAt_node hb (o := 0) (by omega) (n := n) (fun i _ => by rw [Nat.zero_add])
  have hst := store_node h1.blk (o := q * 8) (by omega) n
  rw [nvals] at hst
  have h2 := h1.set hq n
  have hk2 := hk1.ks (q * 8) [.int .u32 (n 0), .int .u32 (n 1), .int .i64 (n 2), .int .i64 (n 3), .int .i64 (n 4), .int .i64 (n 5)]
  generalize (w.alloc (.cells (nodeA n) 82)).setCells k (q * 8) [.int .u32 (n 0), .int .u32 (n 1), .int .i64 (n 2), .int .i64 (n 3), .int .i64 (n 4), .int .i64 (n 5)] = w2 at hst h2 hk2
  have hsz := nodeA_size n
  clear h h1 hb hk1
  generalize nodeA n = A at hsz hfind hld hst ⊢
  go_enter Try.func69, Try.ntmps69
  go_wp2_with (first | (go_at_call 75; refine hfind.mono ?_; rintro e w' ⟨rfl, rfl⟩) | (guard_target =~ wpList _ _ _ (Oper.mk _ (Op.store 82 _ _) _ _ _ _ :: _) _ _; refine wpList_store_run rfl 82 (.tmp 16) (.tmp 14) rfl (by rfl) (by rfl) hst ?_) | (guard_target =~ wpList _ _ _ (Oper.mk _ (Op.load 82 _) _ _ _ _ :: _) _ _; refine wpList_load_run rfl 82 (.tmp 5) rfl (by rfl) hld ?_))
  go_ret
  exact ⟨rfl, h2, hk2⟩

set_option maxHeartbeats 600000 in
theorem put_no {w : World} {p k : Nat} {s : Ar} (h : Mem w p k s) {x : Nat} (hx : x ≤ 4294967295) (hN : s.N ≤ 512) (hl : ¬ (1 ≤ x ∧ x ≤ s.N ∧ s.live x = true)) (n : Nat → Int) :
    Calls Try.prog 69 #[.pointer (some ⟨p, 0, none⟩), .int .u32 (x : Int), .agg (nodeA n)] w fun e w' => e = .returned (.int .i64 1) ∧ Keep (fun _ => False) w w' := by
  have h1 := h.alloc (.cells (nodeA n) 82)
  have hk1 : Keep (fun _ => False) w (w.alloc (.cells (nodeA n) 82)) := (Keep.refl _ _).alloc _
  have hfind := find_no h1 hx hN hl
  have hsz := nodeA_size n
  clear h h1 hl
  generalize nodeA n = A at hsz hfind hk1 ⊢
  go_enter Try.func69, Try.ntmps69
  go_wp2_with (go_at_call 75; refine hfind.mono ?_; rintro e w' ⟨rfl, rfl⟩)
  go_ret
  exact ⟨rfl, hk1⟩

set_option maxHeartbeats 600000 in
theorem get_any {w : World} {p k : Nat} {s : Ar} (h : Mem w p k s) {q : Nat} (hq : q < s.N) (hN : s.N ≤ 512) (hl : s.live (q + 1) = true) :
    Calls Try.prog 72 #[.pointer (some ⟨p, 0, none⟩), .int .u32 ((q : Int) + 1)] w fun e w' => e = .returned (.tuple #[.agg (nodeA (s.fld (q + 1))), .int .i64 0]) ∧ Keep (fun _ => False) w w' := by
  have hb := node_new w (fun _ => 0)
  have h1 := h.alloc (.cells (nodeA (fun _ => 0)) 82)
  have hk1 : Keep (fun _ => False) w (w.alloc (.cells (nodeA (fun _ => 0)) 82)) := (Keep.refl _ _).alloc _
  have hfind := find_yes h1 hq hN hl
  have hld := loadAt_node h1.blk (o := q * 8) (by omega) (n := s.fld (q + 1)) (fun i hi => s.cell_fld q i hi)
  have hst := store_node hb (o := 0) (by omega) (s.fld (q + 1))
  have hb2 := hb.setCells 0 6 (fun j => nval j (s.fld (q + 1) j)) (by omega)
  have hld2 := load_node hb2 (o := 0) (by omega) (n := s.fld (q + 1)) (fun i hi => by rw [if_pos (by omega), Nat.zero_add, Nat.sub_zero])
  have hk2 : Keep (fun _ => False) w ((w.alloc (.cells (nodeA (fun _ => 0)) 82)).setCells w.heap.size 0 ((List.range 6).map fun j => nval j (s.fld (q + 1) j))) := hk1.setCells (Or.inr (Nat.le_refl _)) _ _
  generalize (w.alloc (.cells (nodeA (fun _ => 0)) 82)).setCells w.heap.size 0 ((List.range 6).map fun j => nval j (s.fld (q + 1) j)) = w2 at hst hld2 hk2
  clear h h1 hb hk1 hb2
  rw [node0] at hfind hld hst
  generalize nodeA (s.fld (q + 1)) = A at hld hst hld2 ⊢
  go_enter Try.func72, Try.ntmps72
  go_wp2_with (first | (go_at_call 75; refine hfind.mono ?_; rintro e w' ⟨rfl, rfl⟩) | (guard_target =~ wpList _ _ _ (Oper.mk _ (Op.store 82 _ _) _ _ _ _ :: _) _ _; refine wpList_store_run rfl 82 (.tmp 4) (.tmp 16) rfl (by rfl) (by rfl) hst ?_) | (guard_target =~ wpList _ _ _ (Oper.mk _ (Op.load 82 _) _ _ _ _ :: _) _ _; refine wpList_load_run rfl 82 (.tmp 15) rfl (by rfl) hld ?_))
  refine bodyPost_ret (v := .tuple #[.agg A, .int .i64 0]) ?_ rfl ⟨rfl, hk2⟩
  rw [results_cell_tmp rfl]
  simp [asAddr, Result.andThen, hld2]

set_option maxHeartbeats 600000 in
theorem get_no {w : World} {p k : Nat} {s : Ar} (h : Mem w p k s) {x : Nat} (hx : x ≤ 4294967295) (hN : s.N ≤ 512) (hl : ¬ (1 ≤ x ∧ x ≤ s.N ∧ s.live x = true)) :
    Calls Try.prog 72 #[.pointer (some ⟨p, 0, none⟩), .int .u32 (x : Int)] w fun e w' => e = .returned (.tuple #[.agg (nodeA (fun _ => 0)), .int .i64 1]) ∧ Keep (fun _ => False) w w' := by
  have hb := node_new w (fun _ => 0)
  have h1 := h.alloc (.cells (nodeA (fun _ => 0)) 82)
  have hk1 : Keep (fun _ => False) w (w.alloc (.cells (nodeA (fun _ => 0)) 82)) := (Keep.refl _ _).alloc _
  have hfind := find_no h1 hx hN hl
  have hst := store_node hb (o := 0) (by omega) (fun _ => 0)
  have hb2 := hb.setCells 0 6 (fun j => nval j 0) (by omega)
  have hld2 := load_node hb2 (o := 0) (by omega) (n := fun _ => 0) (fun i hi => by rw [if_pos (by omega), Nat.zero_add, Nat.sub_zero])
  have hk2 : Keep (fun _ => False) w ((w.alloc (.cells (nodeA (fun _ => 0)) 82)).setCells w.heap.size 0 ((List.range 6).map fun j => nval j 0)) := hk1.setCells (Or.inr (Nat.le_refl _)) _ _
  generalize (w.alloc (.cells (nodeA (fun _ => 0)) 82)).setCells w.heap.size 0 ((List.range 6).map fun j => nval j 0) = w2 at hst hld2 hk2
  clear h h1 hb hk1 hb2 hl
  rw [node0] at hfind hst
  go_enter Try.func72, Try.ntmps72
  go_wp2_with (first | (go_at_call 75; refine hfind.mono ?_; rintro e w' ⟨rfl, rfl⟩) | (guard_target =~ wpList _ _ _ (Oper.mk _ (Op.store 82 _ _) _ _ _ _ :: _) _ _; refine wpList_store_run rfl 82 (.tmp 4) (.tmp 12) rfl (by rfl) (by rfl) hst ?_))
  refine bodyPost_ret (v := .tuple #[.agg (nodeA (fun _ => 0)), .int .i64 1]) ?_ rfl ⟨rfl, hk2⟩
  rw [results_cell_tmp rfl]
  simp [asAddr, Result.andThen, hld2]
end Tg
end Go.Proofs.Ytbdankhlbepjoaa
