/-
  The statement of wear at any numbers.
-/
import Derived.Test.YtjafjofonckaaaaWears
namespace Go.Proofs.Ytjafjofonckaaaa
open Go.ChangeShapes Go.WideShapes Go.ChangeAt Go.RowKit
namespace Nd
set_option maxRecDepth 100000 in
set_option maxHeartbeats 1000000 in
theorem wears1 (w : World) {B P : Int} {len cap : Nat} {a : Option Addr} (h : B < 1) :
    Calls Try.prog 6 #[.int .i64 B, .int .i64 P, .slice a len cap] w fun e w' => e = .returned (.bool true) ∧ Keep (fun _ => False) w w' := by
  go_enter Try.func6, Try.ntmps6
  go_wp2_with fail
  refine (awake_any w).mono ?_
  rintro e w1 ⟨rfl, k1⟩
  go_wp2_with fail
  go_ret
  exact ⟨rfl, k1⟩

set_option maxRecDepth 100000 in
set_option maxHeartbeats 1000000 in
theorem wears2 (w : World) {B P : Int} {len cap : Nat} {a : Option Addr} (h1 : ¬ B < 1) (h : 8 < B) :
    Calls Try.prog 6 #[.int .i64 B, .int .i64 P, .slice a len cap] w fun e w' => e = .returned (.bool true) ∧ Keep (fun _ => False) w w' := by
  go_enter Try.func6, Try.ntmps6
  go_wp2_with fail
  refine (awake_any w).mono ?_
  rintro e w1 ⟨rfl, k1⟩
  go_wp2_with fail
  go_ret
  exact ⟨rfl, k1⟩

set_option maxRecDepth 100000 in
set_option maxHeartbeats 1000000 in
theorem wears3 (w : World) {B P : Int} {len cap : Nat} {a : Option Addr} (h1 : ¬ B < 1) (h2 : ¬ 8 < B) (h : P < 1) :
    Calls Try.prog 6 #[.int .i64 B, .int .i64 P, .slice a len cap] w fun e w' => e = .returned (.bool true) ∧ Keep (fun _ => False) w w' := by
  go_enter Try.func6, Try.ntmps6
  go_wp2_with fail
  refine (awake_any w).mono ?_
  rintro e w1 ⟨rfl, k1⟩
  go_wp2_with fail
  go_ret
  exact ⟨rfl, k1⟩

set_option maxRecDepth 100000 in
set_option maxHeartbeats 1000000 in
theorem wears4 (w : World) {B P : Int} {len cap : Nat} {a : Option Addr} (h1 : ¬ B < 1) (h2 : ¬ 8 < B) (h3 : ¬ P < 1) (h : 8 < P) :
    Calls Try.prog 6 #[.int .i64 B, .int .i64 P, .slice a len cap] w fun e w' => e = .returned (.bool true) ∧ Keep (fun _ => False) w w' := by
  go_enter Try.func6, Try.ntmps6
  go_wp2_with fail
  refine (awake_any w).mono ?_
  rintro e w1 ⟨rfl, k1⟩
  go_wp2_with fail
  go_ret
  exact ⟨rfl, k1⟩

set_option maxRecDepth 100000 in
set_option maxHeartbeats 1000000 in
theorem wears5 (w : World) {B P : Int} {len cap : Nat} {a : Option Addr} (h1 : ¬ B < 1) (h2 : ¬ 8 < B) (h3 : ¬ P < 1) (h4 : ¬ 8 < P) (h : (40 : Int) < len) :
    Calls Try.prog 6 #[.int .i64 B, .int .i64 P, .slice a len cap] w fun e w' => e = .returned (.bool true) ∧ Keep (fun _ => False) w w' := by
  go_enter Try.func6, Try.ntmps6
  go_wp2_with fail
  refine (awake_any w).mono ?_
  rintro e w1 ⟨rfl, k1⟩
  go_wp2_with fail
  go_ret
  exact ⟨rfl, k1⟩

theorem wears_any (w : World) (B P : Int) {len cap : Nat} {a : Option Addr} (hA : len ≤ cap ∧ cap ≤ 9223372036854775807 ∧ (len = 0 ∨ ∃ b o, a = some ⟨b, o, none⟩ ∧ ∀ i, i < len → ∃ op x sh f, ActAt w b (o + i * 4) op x sh f)) :
    Calls Try.prog 6 #[.int .i64 B, .int .i64 P, .slice a len cap] w fun e w' => e = .returned (.bool true) ∧ Keep (fun _ => False) w w' := by
  by_cases h1 : B < 1
  · exact wears1 w h1
  by_cases h2 : 8 < B
  · exact wears2 w h1 h2
  by_cases h3 : P < 1
  · exact wears3 w h1 h2 h3
  by_cases h4 : 8 < P
  · exact wears4 w h1 h2 h3 h4
  by_cases h5 : (40 : Int) < len
  · exact wears5 w h1 h2 h3 h4 h5
  obtain ⟨b, rfl⟩ := Int.eq_ofNat_of_zero_le (show 0 ≤ B by omega)
  obtain ⟨p, rfl⟩ := Int.eq_ofNat_of_zero_le (show 0 ≤ P by omega)
  exact wears_main w (by omega) (by omega) (by omega) (by omega) (by omega) hA.1 hA.2.1 hA.2.2
end Nd
end Go.Proofs.Ytjafjofonckaaaa
