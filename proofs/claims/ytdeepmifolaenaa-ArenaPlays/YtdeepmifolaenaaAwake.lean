/-
  The awakening call of the statements: it returns true, and whatever was in memory is as it was.
-/
import Derived.Test.YtdeepmifolaenaaFree
namespace Go.Proofs.Ytdeepmifolaenaa
open Go.ChangeShapes Go.WideShapes Go.ChangeAt Go.RowKit
namespace Tg

/-- An arena that was made since w. -/
structure Mk (w wr : World) (p k : Nat) (s : Ar) (l : List Nat) : Prop where
  mem : Mem wr p k s
  ok : s.Ok l
  p : w.heap.size ≤ p
  k : w.heap.size ≤ k
  keep : Keep (fun _ => False) w wr

theorem Mk.own {w wr w' : World} {p k : Nat} {s t : Ar} {l m : List Nat} (h : Mk w wr p k s l) (hm : Mem w' p k t) (hk : Keep (Own p k) wr w') (ok : t.Ok m) : Mk w w' p k t m :=
  ⟨hm, ok, h.p, h.k, h.keep.next hk (fun x hx e => by have := h.p; have := h.k; rcases e with e | e <;> omega)⟩
theorem Mk.more {w wr w' : World} {p k : Nat} {s : Ar} {l : List Nat} (h : Mk w wr p k s l) (hk : Keep (fun _ => False) wr w') : Mk w w' p k s l :=
  ⟨h.mem.keep hk (fun e => e) (fun e => e), h.ok, h.p, h.k, h.keep.trans hk⟩

theorem Mk.new (w : World) {n : Nat} (h1 : 1 ≤ n) (h2 : n ≤ 512) :
    Calls Try.prog 7 #[.int .i64 (n : Int)] w fun e w' => ∃ p k, e = .returned (.tuple #[.pointer (some ⟨p, 0, none⟩), .int .i64 0]) ∧ Mk w w' p k (Ar.new n) (List.range' 1 n) := by
  refine (new_any h1 h2).mono ?_
  rintro e w' ⟨p, k, rfl, hm, hp, hk, hK⟩
  exact ⟨p, k, rfl, hm, Ar.new_ok h1 h2, hp, hk, hK⟩
theorem Mk.take {w wr : World} {p k : Nat} {s : Ar} {x : Nat} {r : List Nat} (h : Mk w wr p k s (x :: r)) :
    Calls Try.prog 8 #[.pointer (some ⟨p, 0, none⟩)] wr fun e w' => e = .returned (.tuple #[.int .u32 (x : Int), .int .i64 0]) ∧ Mk w w' p k s.take r ∧ Keep (Own p k) wr w' := by
  refine (take_any h.mem h.ok).mono ?_
  rintro e w' ⟨rfl, hm, hk⟩
  exact ⟨rfl, h.own hm hk h.ok.take, hk⟩
theorem Ar.Ok.one_live {s : Ar} {l : List Nat} (h : s.Ok l) {x : Nat} (h1 : 1 ≤ x) (h2 : x ≤ s.N) (hl : s.live x = true) : 1 ≤ s.count ∧ s.count ≤ 512 := by
  have := (h.give h1 h2 hl).count
  have hc := h.count
  have hs := h.small
  simp only [Ar.give, Ar.wipe, List.length_cons] at this
  omega
theorem Mk.give {w wr : World} {p k : Nat} {s : Ar} {l : List Nat} (h : Mk w wr p k s l) {q : Nat} (hq : q < s.N) (hl : s.live (q + 1) = true) :
    Calls Try.prog 9 #[.pointer (some ⟨p, 0, none⟩), .int .u32 ((q : Int) + 1)] wr fun e w' => e = .returned (.int .i64 0) ∧ Mk w w' p k (s.give (q + 1)) ((q + 1) :: l) ∧ Keep (Own p k) wr w' := by
  refine (give_any h.mem hq h.ok.small hl (h.ok.one_live (by omega) (by omega) hl)).mono ?_
  rintro e w' ⟨rfl, hm, hk⟩
  exact ⟨rfl, h.own hm hk (h.ok.give (by omega) (by omega) hl), hk⟩
theorem Mk.put {w wr : World} {p k : Nat} {s : Ar} {l : List Nat} (h : Mk w wr p k s l) {q : Nat} (hq : q < s.N) (hl : s.live (q + 1) = true) (n : Nat → Int) :
    Calls Try.prog 10 #[.pointer (some ⟨p, 0, none⟩), .int .u32 ((q : Int) + 1), .agg (nodeA n)] wr fun e w' => e = .returned (.int .i64 0) ∧ Mk w w' p k (s.set (q + 1) n) l ∧ Keep (Own p k) wr w' := by
  refine (put_any h.mem hq h.ok.small hl n).mono ?_
  rintro e w' ⟨rfl, hm, hk⟩
  exact ⟨rfl, h.own hm hk (h.ok.set _ _), hk⟩

/-- A node laid into a new variable. -/
theorem new_node (w : World) (n : Nat → Int) : ∃ w', (Instr.storeAt 40 (.pointer (some ⟨w.heap.size, 0, none⟩)) (.agg (nodeA n))).run Try.prog (w.alloc (.cells #[.int .u32 0, .int .u32 0, .int .i64 0, .int .i64 0, .int .i64 0, .int .i64 0] 40)) = .ok () w' ∧
    Blk w' w.heap.size 6 (fun j => nval j (n j)) ∧ Keep (fun _ => False) w w' := by
  have hb := node_new w (fun _ => 0)
  have hk : Keep (fun _ => False) w (w.alloc (.cells (nodeA (fun _ => 0)) 40)) := (Keep.refl _ _).alloc _
  rw [node0] at hb hk
  refine ⟨_, store_node hb (o := 0) (by omega) n, (hb.setCells 0 6 _ (by omega)).congr (fun i hi => by rw [if_pos (by omega), Nat.sub_zero]), hk.setCells (Or.inr (Nat.le_refl _)) _ _⟩

/-- The node of the example. -/
def n94 (j : Nat) : Int := if j = 0 then 9 else if j = 2 then 4 else 0
theorem n94_eq : nodeA n94 = #[.int .u32 9, .int .u32 0, .int .i64 4, .int .i64 0, .int .i64 0, .int .i64 0] := rfl

set_option maxHeartbeats 1000000 in
theorem awake_any (w : World) : Calls Try.prog 6 #[] w fun e w' => e = .returned (.bool true) ∧ Keep (fun _ => False) w w' := by
  have hnew := Mk.new w (n := 3) (by omega) (by omega)
  rw [show ((3 : Nat) : Int) = 3 from rfl] at hnew
  go_enter Try.func6, Try.ntmps6
  go_wp2_with fail
  refine hnew.mono ?_
  rintro e w1 ⟨p, k, rfl, h1⟩
  clear hnew
  have h1 : Mk w w1 p k (Ar.new 3) [1, 2, 3] := h1
  have t1 := h1.take
  clear h1
  go_wp2_with fail
  refine t1.mono ?_
  rintro e w2 ⟨rfl, h2, -⟩
  clear t1
  have t2 := h2.take
  clear h2
  go_wp2_with fail
  refine t2.mono ?_
  rintro e w3 ⟨rfl, h3, -⟩
  clear t2
  have t3 := h3.give (q := 0) (by decide) (by decide)
  rw [show ((0 : Nat) : Int) + 1 = 1 from rfl] at t3
  clear h3
  go_wp2_with fail
  refine t3.mono ?_
  rintro e w4 ⟨rfl, h4, -⟩
  clear t3
  have t4 := h4.take
  clear h4
  go_wp2_with fail
  refine t4.mono ?_
  rintro e w5 ⟨rfl, h5, -⟩
  clear t4
  have t5 := h5.put (q := 1) (by decide) (by decide) n94
  rw [show ((1 : Nat) : Int) + 1 = 2 from rfl, n94_eq] at t5
  clear h5
  go_wp2_with fail
  refine t5.mono ?_
  rintro e w6 ⟨rfl, h6, -⟩
  clear t5
  have t6 := get_any h6.mem (q := 1) (by decide) h6.ok.small (by decide)
  rw [show ((1 : Nat) : Int) + 1 = 2 from rfl] at t6
  go_wp2_with fail
  refine t6.mono ?_
  rintro e w7 ⟨rfl, hk7⟩
  clear t6
  have h7 := h6.more hk7
  clear h6 hk7
  obtain ⟨w8, hst, hb8, hk8⟩ := new_node w7 ((((Ar.new 3).take.take.give (0 + 1)).take.set (1 + 1) n94).fld (1 + 1))
  have c0 : w8.cell? ⟨w7.heap.size, 0, none⟩ = some (.int .u32 9) := (hb8 0 (by omega)).1
  have c2 : w8.cell? ⟨w7.heap.size, 2, none⟩ = some (.int .i64 4) := (hb8 2 (by omega)).1
  have h8 := h7.more hk8
  have t8 := free_any h8.mem h8.ok
  clear hk8 h7
  generalize nodeA ((((Ar.new 3).take.take.give (0 + 1)).take.set (1 + 1) n94).fld (1 + 1)) = A at hst ⊢
  go_wp2_with (guard_target =~ wpList _ _ _ (Oper.mk _ (Op.store 40 _ _) _ _ _ _ :: _) _ _; refine wpList_store_run rfl 40 (.tmp 11) (.tmp 47) rfl (by rfl) (by rfl) hst ?_)
  refine t8.mono ?_
  rintro e w9 ⟨g, cap, rfl, hg⟩
  clear t8 hst c0 c2
  have hb9 := hb8.keep hg.keep (fun e => e)
  have c0 : w9.cell? ⟨w7.heap.size, 0, none⟩ = some (.int .u32 9) := (hb9 0 (by omega)).1
  have c2 : w9.cell? ⟨w7.heap.size, 2, none⟩ = some (.int .i64 4) := (hb9 2 (by omega)).1
  have cg : w9.cell? ⟨g, 0, none⟩ = some (.int .u32 3) := hg.row.cellAt (i := 0) (by decide)
  have h9 := h8.more hg.keep
  have HK := h9.keep
  have l9 : Calls Try.prog 13 #[.pointer (some ⟨p, 0, none⟩)] w9 fun e w' => e = .returned (.int .i64 2) ∧ w' = w9 := live_any h9.mem
  have s9 : Calls Try.prog 15 #[.pointer (some ⟨p, 0, none⟩)] w9 fun e w' => e = .returned (.int .i64 3) ∧ w' = w9 := size_any h9.mem
  clear hb8 hb9 h8 h9 hg
  go_wp2_with (first | (go_at_call 13; refine l9.mono ?_; rintro e w' ⟨rfl, rfl⟩) | (go_at_call 15; refine s9.mono ?_; rintro e w' ⟨rfl, rfl⟩))
  go_ret
  exact ⟨rfl, HK⟩
end Tg
end Go.Proofs.Ytdeepmifolaenaa
