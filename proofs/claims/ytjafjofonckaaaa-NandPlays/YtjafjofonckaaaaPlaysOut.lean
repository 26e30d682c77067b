/-
  The statement of whole plays at any numbers.
-/
import Derived.Test.YtjafjofonckaaaaPlays
namespace Go.Proofs.Ytjafjofonckaaaa
open Go.ChangeShapes Go.WideShapes Go.ChangeAt Go.RowKit
namespace Nd
set_option maxRecDepth 100000 in
set_option maxHeartbeats 1000000 in
theorem plays1 (w : World) {B P : Int} {len cap : Nat} {a : Option Addr} (h : B < 1) :
    Calls Try.prog 4 #[.int .i64 B, .int .i64 P, .slice a len cap] w fun e w' => e = .returned (.bool true) ∧ Keep (fun _ => False) w w' := by
  go_enter Try.func4, Try.ntmps4
  go_wp2_with fail
  refine (awake_any w).mono ?_
  rintro e w1 ⟨rfl, k1⟩
  have hno := new_no (w := w1) (B := B) (P := P) (by omega)
  go_wp2_with fail
  refine hno.mono ?_
  rintro e w2 ⟨rfl, rfl⟩
  go_wp2_with fail
  go_ret
  exact ⟨rfl, k1⟩

set_option maxRecDepth 100000 in
set_option maxHeartbeats 1000000 in
theorem plays2 (w : World) {B P : Int} {len cap : Nat} {a : Option Addr} (h1 : ¬ B < 1) (h : 64 < B) :
    Calls Try.prog 4 #[.int .i64 B, .int .i64 P, .slice a len cap] w fun e w' => e = .returned (.bool true) ∧ Keep (fun _ => False) w w' := by
  go_enter Try.func4, Try.ntmps4
  go_wp2_with fail
  refine (awake_any w).mono ?_
  rintro e w1 ⟨rfl, k1⟩
  have hno := new_no (w := w1) (B := B) (P := P) (by omega)
  go_wp2_with fail
  refine hno.mono ?_
  rintro e w2 ⟨rfl, rfl⟩
  go_wp2_with fail
  go_ret
  exact ⟨rfl, k1⟩

set_option maxRecDepth 100000 in
set_option maxHeartbeats 1000000 in
theorem plays3 (w : World) {B P : Int} {len cap : Nat} {a : Option Addr} (h1 : ¬ B < 1) (h2 : ¬ 64 < B) (h : P < 1) :
    Calls Try.prog 4 #[.int .i64 B, .int .i64 P, .slice a len cap] w fun e w' => e = .returned (.bool true) ∧ Keep (fun _ => False) w w' := by
  go_enter Try.func4, Try.ntmps4
  go_wp2_with fail
  refine (awake_any w).mono ?_
  rintro e w1 ⟨rfl, k1⟩
  have hno := new_no (w := w1) (B := B) (P := P) (by omega)
  go_wp2_with fail
  refine hno.mono ?_
  rintro e w2 ⟨rfl, rfl⟩
  go_wp2_with fail
  go_ret
  exact ⟨rfl, k1⟩

set_option maxRecDepth 100000 in
set_option maxHeartbeats 1000000 in
theorem plays4 (w : World) {B P : Int} {len cap : Nat} {a : Option Addr} (h1 : ¬ B < 1) (h2 : ¬ 64 < B) (h3 : ¬ P < 1) (h : 32 < P) :
    Calls Try.prog 4 #[.int .i64 B, .int .i64 P, .slice a len cap] w fun e w' => e = .returned (.bool true) ∧ Keep (fun _ => False) w w' := by
  go_enter Try.func4, Try.ntmps4
  go_wp2_with fail
  refine (awake_any w).mono ?_
  rintro e w1 ⟨rfl, k1⟩
  have hno := new_no (w := w1) (B := B) (P := P) (by omega)
  go_wp2_with fail
  refine hno.mono ?_
  rintro e w2 ⟨rfl, rfl⟩
  go_wp2_with fail
  go_ret
  exact ⟨rfl, k1⟩

set_option maxRecDepth 100000 in
set_option maxHeartbeats 1000000 in
theorem plays5 (w : World) {B P len cap : Nat} {a : Option Addr} (b1 : 1 ≤ B) (b2 : B ≤ 64) (p1 : 1 ≤ P) (p2 : P ≤ 32) (h : (40 : Int) < len) :
    Calls Try.prog 4 #[.int .i64 B, .int .i64 P, .slice a len cap] w fun e w' => e = .returned (.bool true) ∧ Keep (fun _ => False) w w' := by
  have g1 : ¬ (B : Int) < 1 := by omega
  have g2 : ¬ (64 : Int) < B := by omega
  have g3 : ¬ (P : Int) < 1 := by omega
  have g4 : ¬ (32 : Int) < P := by omega
  go_enter Try.func4, Try.ntmps4
  go_wp2_with fail
  refine (awake_any w).mono ?_
  rintro e w1 ⟨rfl, k1⟩
  go_wp2_with fail
  refine (new_any (B := B) (P := P) b1 b2 p1 p2).mono ?_
  rintro e w2 ⟨p, c, k, rfl, m0, hp, hc, hk, K0⟩
  go_wp2_with fail
  go_ret
  exact ⟨rfl, k1.trans K0⟩

set_option maxRecDepth 100000 in
set_option maxHeartbeats 1000000 in
theorem plays6 (w : World) {B P len cap : Nat} {a : Option Addr} (b1 : 1 ≤ B) (b2 : B ≤ 64) (p1 : 1 ≤ P) (p2 : P ≤ 32) (h5 : ¬ (40 : Int) < len) (h : (8 : Int) < B) :
    Calls Try.prog 4 #[.int .i64 B, .int .i64 P, .slice a len cap] w fun e w' => e = .returned (.bool true) ∧ Keep (fun _ => False) w w' := by
  have g1 : ¬ (B : Int) < 1 := by omega
  have g2 : ¬ (64 : Int) < B := by omega
  have g3 : ¬ (P : Int) < 1 := by omega
  have g4 : ¬ (32 : Int) < P := by omega
  go_enter Try.func4, Try.ntmps4
  go_wp2_with fail
  refine (awake_any w).mono ?_
  rintro e w1 ⟨rfl, k1⟩
  go_wp2_with fail
  refine (new_any (B := B) (P := P) b1 b2 p1 p2).mono ?_
  rintro e w2 ⟨p, c, k, rfl, m0, hp, hc, hk, K0⟩
  go_wp2_with fail
  go_ret
  exact ⟨rfl, k1.trans K0⟩

set_option maxRecDepth 100000 in
set_option maxHeartbeats 1000000 in
theorem plays7 (w : World) {B P len cap : Nat} {a : Option Addr} (b1 : 1 ≤ B) (b2 : B ≤ 64) (p1 : 1 ≤ P) (p2 : P ≤ 32) (h5 : ¬ (40 : Int) < len) (h6 : ¬ (8 : Int) < B) (h : (8 : Int) < P) :
    Calls Try.prog 4 #[.int .i64 B, .int .i64 P, .slice a len cap] w fun e w' => e = .returned (.bool true) ∧ Keep (fun _ => False) w w' := by
  have g1 : ¬ (B : Int) < 1 := by omega
  have g2 : ¬ (64 : Int) < B := by omega
  have g3 : ¬ (P : Int) < 1 := by omega
  have g4 : ¬ (32 : Int) < P := by omega
  go_enter Try.func4, Try.ntmps4
  go_wp2_with fail
  refine (awake_any w).mono ?_
  rintro e w1 ⟨rfl, k1⟩
  go_wp2_with fail
  refine (new_any (B := B) (P := P) b1 b2 p1 p2).mono ?_
  rintro e w2 ⟨p, c, k, rfl, m0, hp, hc, hk, K0⟩
  go_wp2_with fail
  go_ret
  exact ⟨rfl, k1.trans K0⟩

theorem plays_any (w : World) (B P : Int) {len cap : Nat} {a : Option Addr} (hA : len ≤ cap ∧ cap ≤ 9223372036854775807 ∧ (len = 0 ∨ ∃ b o, a = some ⟨b, o, none⟩ ∧ ∀ i, i < len → ∃ op x sh f, ActAt w b (o + i * 4) op x sh f)) :
    Calls Try.prog 4 #[.int .i64 B, .int .i64 P, .slice a len cap] w fun e w' => e = .returned (.bool true) ∧ Keep (fun _ => False) w w' := by
  by_cases h1 : B < 1
  · exact plays1 w h1
  by_cases h2 : 64 < B
  · exact plays2 w h1 h2
  by_cases h3 : P < 1
  · exact plays3 w h1 h2 h3
  by_cases h4 : 32 < P
  · exact plays4 w h1 h2 h3 h4
  obtain ⟨b, rfl⟩ := Int.eq_ofNat_of_zero_le (show 0 ≤ B by omega)
  obtain ⟨p, rfl⟩ := Int.eq_ofNat_of_zero_le (show 0 ≤ P by omega)
  by_cases h5 : (40 : Int) < len
  · exact plays5 w (by omega) (by omega) (by omega) (by omega) h5
  by_cases h6 : (8 : Int) < b
  · exact plays6 w (by omega) (by omega) (by omega) (by omega) h5 h6
  by_cases h7 : (8 : Int) < p
  · exact plays7 w (by omega) (by omega) (by omega) (by omega) h5 h6 h7
  exact plays_main w (by omega) (by omega) (by omega) (by omega) (by omega) hA.1 hA.2.1 hA.2.2
end Nd
end Go.Proofs.Ytjafjofonckaaaa
