/-
  What the statements ask of streams and numbers: same, wrap.
-/
import Derived.Test.YtginnojbmpnleaaLt
namespace Go.Proofs.Ytginnojbmpnleaa
open Go.ChangeShapes Go.WideShapes Go.ChangeAt Go.RowKit
namespace Tg
set_option maxHeartbeats 600000 in
/-- same, of streams that are the same. -/
theorem same_yes {w : World} {k e g : Int} {a a2 : Option Addr} {n c n2 c2 : Nat} {b : List Int} (h1 : Row w a n c b) (h2 : Row w a2 n2 c2 b) :
    Calls Try.prog 14 #[.agg #[.int .i64 k, .int .u32 e, .int .u32 g, .slice a n c], .agg #[.int .i64 k, .int .u32 e, .int .u32 g, .slice a2 n2 c2]] w fun e w' => e = .returned (.bool true) ∧ Keep (fun _ => False) w w' := by
  have K := ((Keep.refl (fun _ => False) w).alloc (.cells #[.int .i64 k, .int .u32 e, .int .u32 g, .slice a n c] 30)).alloc (.cells #[.int .i64 k, .int .u32 e, .int .u32 g, .slice a2 n2 c2] 36)
  have t1 := (h1.moreV K).text
  have t2 := (h2.moreV K).text
  have e1 : (k == k) = true := by simp
  have e2 : (e == e) = true := by simp
  have e3 : (g == g) = true := by simp
  have e4 : ((strOfNums b).toList == (strOfNums b).toList) = true := by simp
  go_enter Try.func14, Try.ntmps14
  go_wp2_with fail
  go_ret
  exact ⟨by simp, K⟩
/-- wrap: a number below the size. -/
theorem wrap_any {n : Int} {s : Nat} (h1 : 1 ≤ s) (h2 : s ≤ 100000) (w : World) :
    Calls Try.prog 15 #[.int .i64 n, .int .i64 (s : Int)] w fun e w' => ∃ k : Nat, k < s ∧ e = .returned (.int .i64 (k : Int)) ∧ w' = w := by
  have hb : -(s : Int) < n.tmod s ∧ n.tmod s < s := by
    have h3 := Int.tmod_lt_of_pos n (show (0 : Int) < s by omega)
    have h4 := Int.lt_tmod_of_pos n (show (0 : Int) < s by omega)
    omega
  have hz2 : ¬ (s : Int) = 0 := by omega
  have hz3 : ¬ s = 0 := by omega
  by_cases c : n.tmod s < 0
  · obtain ⟨k, hk⟩ := Int.eq_ofNat_of_zero_le (show 0 ≤ n.tmod s + s by omega)
    have hks : k < s := by omega
    have f1 : wrap64 (n.tmod s + s) = (k : Int) := by rw [← hk]; unfold wrap64; omega
    have hks' : Hid (k < s) := hks
    clear hk hb hks
    go_enter Try.func15, Try.ntmps15
    go_wp2_with fail
    go_ret
    exact ⟨k, hks', by rw [← f1]; rfl, rfl⟩
  · obtain ⟨k, hk⟩ := Int.eq_ofNat_of_zero_le (show 0 ≤ n.tmod s by omega)
    have hks : k < s := by omega
    have hks' : Hid (k < s) := hks
    have hk' : Hid (n.tmod s = (k : Int)) := hk
    clear hk hb hks
    go_enter Try.func15, Try.ntmps15
    go_wp2_with fail
    go_ret
    exact ⟨k, hks', by rw [← show n.tmod s = (k : Int) from hk']; rfl, rfl⟩
end Tg
end Go.Proofs.Ytginnojbmpnleaa
