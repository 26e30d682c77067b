/-
  The examples of the statement TreeKnown: the call returns true, and whatever was in memory is as it was.
-/
import Derived.Test.YtnipckcpnbdhhaaAwake
namespace Go.Proofs.Ytnipckcpnbdhhaa
open Go.ChangeShapes Go.WideShapes Go.ChangeAt Go.RowKit
namespace Tg

set_option maxRecDepth 100000 in
set_option maxHeartbeats 2000000 in
theorem known_walk (w : World) : Calls Try.prog 3 #[] w fun e w' => e = .returned (.bool true) ∧ Below w.heap.size w w' := by
  go_enter Try.func3, Try.ntmps3
  go_wp2_with fail
  refine (awake_any w).mono ?_
  rintro e w0 ⟨rfl, k0⟩
  have hnew := arena_any w0 (n := 3) (by omega) (by omega)
  rw [show ((3 : Nat) : Int) = 3 from rfl] at hnew
  go_wp2_with fail
  refine hnew.mono ?_
  rintro e w1 ⟨p, k, rfl, m1, hp, hkk, k1⟩
  clear hnew
  have hnew := Mt.new (w := w0) (by omega) (by omega) m1 hp hkk k1
  generalize hb : w1.heap.size = b at hnew
  clear hb m1 hp hkk k1
  go_wp2_with fail
  refine hnew.mono ?_
  rintro e w2 ⟨rfl, h2, -⟩
  clear hnew
  have h2 : Mt w0 w2 b p k 3 [1, 2, 3] .nil := h2
  have hr := run_any w2 5
  rw [rnA_lit] at hr
  go_wp2_with fail
  refine hr.mono ?_
  rintro e w3 ⟨rfl, k3⟩
  have hi := (h2.more k3).insert (rv 5) rfl
  rw [rnA_lit] at hi
  clear hr h2 k3
  go_wp2_with fail
  refine hi.mono ?_
  rintro e w4 ⟨rfl, h4, -⟩
  clear hi
  have hf := h4.ceil 6
  rw [show (Tr.ce 6 (Tr.nil.ins 1 (rv 5)) .nil).run = none from by kernel_rfl, ansV_none] at hf
  go_wp2_with fail
  refine hf.mono ?_
  rintro e w5 ⟨rfl, k5⟩
  have h5 := h4.more k5
  have h6 := h5.more ((Keep.refl (fun _ => False) w5).alloc (.cells #[.int .i64 0, .int .i64 0, .int .i64 0] 31))
  clear hf h4 k5 h5
  have hd := h6.deleteNo 4 (by decide +kernel)
  go_wp2_with fail
  refine hd.mono ?_
  rintro e w7 ⟨rfl, k7⟩
  have h7 := h6.more k7
  clear hd h6 k7
  have hr := run_any w7 4
  rw [rnA_lit] at hr
  go_wp2_with fail
  refine hr.mono ?_
  rintro e w8 ⟨rfl, k8⟩
  have h8 := h7.more k8
  have hc := h8.changeNo (rv 4) (by decide +kernel)
  rw [rnA_lit] at hc
  clear hr h7 k8
  go_wp2_with fail
  refine hc.mono ?_
  rintro e w9 ⟨rfl, k9⟩
  have h9 := h8.more k9
  clear hc h8 k9
  have hd := h9.delete 5 (by decide +kernel)
  go_wp2_with fail
  refine hd.mono ?_
  rintro e w10 ⟨rfl, h10, -⟩
  have h10 : Mt w0 w10 b p k 3 [1, 2, 3] .nil := h10
  clear hd h9
  have hd := h10.deleteNo 5 (by decide +kernel)
  go_wp2_with fail
  refine hd.mono ?_
  rintro e w11 ⟨rfl, k11⟩
  have h11 := h10.more k11
  clear hd h10 k11
  have hl := h11.len
  have ht := h11.root
  have HK := k0.trans h11.keep
  rw [show ((Tr.nil.views.length : Nat) : Int) = 0 from rfl] at hl
  rw [show ((Tr.nil.link : Nat) : Int) = 0 from rfl] at ht
  clear h11
  go_wp2_with (first | (go_at_call 15; refine hl.mono ?_; rintro e w' ⟨rfl, rfl⟩) | (go_at_call 16; refine ht.mono ?_; rintro e w' ⟨rfl, rfl⟩))
  go_ret
  exact ⟨rfl, HK.below (Nat.le_refl _) (fun _ e => e.elim)⟩
end Tg
end Go.Proofs.Ytnipckcpnbdhhaa
