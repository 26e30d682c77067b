/-
  The statement of the examples, walked: it returns true, and whatever was in memory is as it was.
-/
import Derived.Test.YtknnaoloebknjaaAwake
namespace Go.Proofs.Ytknnaoloebknjaa
open Go.ChangeShapes Go.WideShapes Go.ChangeAt Go.RowKit
namespace Tg
open Vi
theorem vb64 : vb (fold 64) = [128, 1] := by rw [vb_big (by decide), vb_small (by decide)]; rfl
theorem vb0 : vb 0 = [0] := by rw [vb_small (by decide)]
/-- Bytes of a literal are read: the memory has grown. -/
theorem get_lit (l : List Int) (n : Nat) (hn : l.length = n) (hm : n ≤ 9223372036854775807) (hb : ∀ n ∈ l, 0 ≤ n ∧ n ≤ 255) (A : Array Value) (hA : A = (l.map (Value.int .u8)).toArray) (v k c : Int) (hv : gv l = v) (hk : gn l = k) (hc : ge l = c) (w : World) :
    Calls Try.prog 9 #[.slice (some ⟨w.heap.size, 0, none⟩) n n] (w.alloc (.cells A 5)) fun e w' => e = .returned (.tuple #[.int .u64 v, .int .i64 k, .int .i64 c]) ∧ Keep (fun _ => False) w w' := by
  subst hA hv hk hc
  exact (get_any (row_lit w l n hn hm hb)).mono (by rintro e w' ⟨rfl, rfl⟩; exact ⟨rfl, (Keep.refl _ _).alloc _⟩)

set_option maxHeartbeats 1000000 in
theorem known_walk (w : World) : Calls Try.prog 3 #[] w fun e w' => e = .returned (.bool true) ∧ Below w.heap.size w w' := by
  go_enter Try.func3, Try.ntmps3
  go_wp2_with fail
  refine (awake_any _).mono ?_
  rintro e w1 ⟨rfl, hk1⟩
  have hg := get_lit [128] 1 rfl (by omega) (by decide) #[.int .u8 128] rfl 0 0 11 rfl rfl rfl w1
  go_wp2_with fail
  refine hg.mono ?_
  rintro e w2 ⟨rfl, hk⟩
  have hk2 := hk1.trans hk
  clear hg hk
  have hg := get_lit [128, 0] 2 rfl (by omega) (by decide) #[.int .u8 128, .int .u8 0] rfl 0 0 11 rfl rfl rfl w2
  go_wp2_with fail
  refine hg.mono ?_
  rintro e w3 ⟨rfl, hk⟩
  have hk3 := hk2.trans hk
  clear hg hk
  have hg : Calls Try.prog 9 #[.slice none 0 0] w3 fun e w' => e = .returned (.tuple #[.int .u64 0, .int .i64 0, .int .i64 11]) ∧ w' = w3 := get_any (row_nil w3)
  go_wp2_with fail
  refine hg.mono ?_
  rintro e w4 ⟨rfl, rfl⟩
  clear hg
  have hg := get_lit [255, 255, 255, 255, 255, 255, 255, 255, 255, 1] 10 rfl (by omega) (by decide) #[.int .u8 255, .int .u8 255, .int .u8 255, .int .u8 255, .int .u8 255, .int .u8 255, .int .u8 255, .int .u8 255, .int .u8 255, .int .u8 1] rfl 18446744073709551615 10 0 rfl rfl rfl w4
  go_wp2_with fail
  refine hg.mono ?_
  rintro e w5 ⟨rfl, hk⟩
  have hk5 := hk3.trans hk
  clear hg hk
  have hg := get_lit [255, 255, 255, 255, 255, 255, 255, 255, 255, 2] 10 rfl (by omega) (by decide) #[.int .u8 255, .int .u8 255, .int .u8 255, .int .u8 255, .int .u8 255, .int .u8 255, .int .u8 255, .int .u8 255, .int .u8 255, .int .u8 2] rfl 0 0 11 rfl rfl rfl w5
  go_wp2_with fail
  refine hg.mono ?_
  rintro e w6 ⟨rfl, hk⟩
  have hk6 := hk5.trans hk
  clear hg hk
  have hp1 := putint_any (row_nil w6) (v := 64) (by omega) (by omega)
  rw [vb64] at hp1
  go_wp2_with fail
  refine hp1.mono ?_
  rintro e w7 ⟨g1, cap1, rfl, hG1⟩
  have ht1 : (convert 27 9 (.slice (some ⟨g1, 0, none⟩) 2 cap1)).run Try.prog w7 = .ok (.string { data := #[128, 1] }) w7 := hG1.row.text
  have hk7 := hk6.trans hG1.keep
  clear hp1 hG1
  have hp2 := put_any (row_nil w7) (v := 0) (by omega) (by omega)
  rw [vb0] at hp2
  go_wp2_with fail
  refine hp2.mono ?_
  rintro e w8 ⟨g2, cap2, rfl, hG2⟩
  have ht2 : (convert 27 9 (.slice (some ⟨g2, 0, none⟩) 1 cap2)).run Try.prog w8 = .ok (.string { data := #[0] }) w8 := hG2.row.text
  have hk8 := hk7.trans hG2.keep
  clear hp2 hG2
  go_wp2_with fail
  go_ret
  exact ⟨rfl, hk8.below (Nat.le_refl _) (fun _ h => h.elim)⟩
end Tg
end Go.Proofs.Ytknnaoloebknjaa
