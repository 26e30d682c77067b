/-
  What the map's New answers.
-/
import Derived.Test.YtbdankhlbepjoaaRqrow
namespace Go.Proofs.Ytbdankhlbepjoaa
open Go.ChangeShapes Go.WideShapes Go.ChangeAt Go.RowKit
namespace Tg

set_option maxRecDepth 100000 in
set_option maxHeartbeats 1000000 in
theorem newMap_any {w : World} {cap N : Nat} (c1 : 1 ≤ cap) (c2 : cap ≤ 512) (n1 : 1 ≤ N) (n2 : N ≤ 512) :
    Calls Try.prog 15 #[.int .i64 (cap : Int), .int .i64 (N : Int)] w fun e w' => ∃ q b p k, e = .returned (.tuple #[.pointer (some ⟨q, 0, none⟩), .int .i64 0]) ∧ Mp w w' q b p k N cap [] := by
  have hA := arena_any w n1 n2
  have d1 : ¬ (cap : Int) < 1 := by omega
  have d2 : ¬ (512 : Int) < cap := by omega
  go_enter Try.func15, Try.ntmps15
  go_upto_region 6 with (go_at_call 38; refine hA.mono ?_; rintro e w1 ⟨p, k, rfl, m1, hp, hk, K1⟩)
  have hT := Mt.new (w := w) n1 n2 m1 hp hk K1
  have hpl := m1.top.lt (by omega)
  have hkl := m1.blk.lt (by show 0 < (Ar.new N).N * 8; show 0 < N * 8; omega)
  clear hA
  go_wp2_with (go_at_call 39; refine hT.mono ?_; rintro e w2 ⟨rfl, T2, k2⟩)
  have k3 : Keep (fun _ => False) w2 (w2.alloc (.cells #[.int .i64 (cap : Int), .pointer (some ⟨p, 0, none⟩), .pointer (some ⟨w1.heap.size, 0, none⟩)] 71)) := (Keep.refl _ _).alloc _
  have hb : Blk (w2.alloc (.cells #[.int .i64 (cap : Int), .pointer (some ⟨p, 0, none⟩), .pointer (some ⟨w1.heap.size, 0, none⟩)] 71)) w2.heap.size 3 (mtop cap p w1.heap.size) := blk_alloc w2 _ 71 3 _ (fun i hi => by rcases three hi with rfl | rfl | rfl <;> rfl)
  have hl := T2.lt
  have hs := k2.size
  have hs1 := K1.size
  have F : Mp w (w2.alloc (.cells #[.int .i64 (cap : Int), .pointer (some ⟨p, 0, none⟩), .pointer (some ⟨w1.heap.size, 0, none⟩)] 71)) w2.heap.size w1.heap.size p k N cap [] :=
    ⟨⟨_, _, T2.more k3, rfl⟩, hb, by omega, by omega, by omega, by omega, Form.nil, Lim.nil _ _, c1, c2, n1, n2⟩
  go_ret2
  exact ⟨_, _, _, _, rfl, F⟩
set_option maxRecDepth 100000 in
set_option maxHeartbeats 1000000 in
theorem newMap_no {w : World} {c n : Int} (h : c < 1 ∨ 512 < c ∨ n < 1 ∨ 512 < n) :
    Calls Try.prog 15 #[.int .i64 c, .int .i64 n] w fun e w' => e = .returned (.tuple #[.pointer none, .int .i64 1]) ∧ Keep (fun _ => False) w w' := by
  have K0 := Keep.refl (fun _ => False) w
  by_cases h1 : c < 1
  · go_enter Try.func15, Try.ntmps15
    go_wp2_with fail
    go_ret2
    exact ⟨rfl, K0⟩
  · by_cases h2 : 512 < c
    · go_enter Try.func15, Try.ntmps15
      go_wp2_with fail
      go_ret2
      exact ⟨rfl, K0⟩
    · have hA := new_no (w := w) (n := n) (by omega)
      clear h
      go_enter Try.func15, Try.ntmps15
      go_wp2_with (go_at_call 38; refine hA.mono ?_; rintro e w1 ⟨rfl, rfl⟩)
      go_ret2
      exact ⟨rfl, K0⟩
end Tg
end Go.Proofs.Ytbdankhlbepjoaa
