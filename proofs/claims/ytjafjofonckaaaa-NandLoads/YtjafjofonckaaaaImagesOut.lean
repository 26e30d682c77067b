/-
  The statement of images at any numbers.
-/
import Derived.Test.YtjafjofonckaaaaImagesA
import Derived.Test.YtjafjofonckaaaaImagesB
import Derived.Test.YtjafjofonckaaaaImagesC
import Derived.Test.YtjafjofonckaaaaActs
namespace Go.Proofs.Ytjafjofonckaaaa
open Go.ChangeShapes Go.WideShapes Go.ChangeAt Go.RowKit
namespace Nd
set_option maxRecDepth 100000 in
set_option maxHeartbeats 1000000 in
theorem loads1 (w : World) {B P : Int} {len cap : Nat} {a : Option Addr} {ix xr nop na nsh nf : Int} (h : B < 1) :
    Calls Try.prog 7 #[.int .i64 B, .int .i64 P, .slice a len cap, .int .i64 ix, .int .u8 xr, .agg #[.int .i64 nop, .int .i64 na, .int .i64 nsh, .int .u8 nf]] w fun e w' => e = .returned (.bool true) ∧ Keep (fun _ => False) w w' := by
  have hKb : Keep (fun _ => False) w (w.alloc (.cells #[.int .i64 nop, .int .i64 na, .int .i64 nsh, .int .u8 nf] 38)) := (Keep.refl _ _).alloc _
  go_enter Try.func7, Try.ntmps7
  go_wp2_with fail
  refine (awake_any _).mono ?_
  rintro e w1 ⟨rfl, k1⟩
  go_wp2_with fail
  go_ret
  exact ⟨rfl, hKb.trans k1⟩

set_option maxRecDepth 100000 in
set_option maxHeartbeats 1000000 in
theorem loads2 (w : World) {B P : Int} {len cap : Nat} {a : Option Addr} {ix xr nop na nsh nf : Int} (h1 : ¬ B < 1) (h : 8 < B) :
    Calls Try.prog 7 #[.int .i64 B, .int .i64 P, .slice a len cap, .int .i64 ix, .int .u8 xr, .agg #[.int .i64 nop, .int .i64 na, .int .i64 nsh, .int .u8 nf]] w fun e w' => e = .returned (.bool true) ∧ Keep (fun _ => False) w w' := by
  have hKb : Keep (fun _ => False) w (w.alloc (.cells #[.int .i64 nop, .int .i64 na, .int .i64 nsh, .int .u8 nf] 38)) := (Keep.refl _ _).alloc _
  go_enter Try.func7, Try.ntmps7
  go_wp2_with fail
  refine (awake_any _).mono ?_
  rintro e w1 ⟨rfl, k1⟩
  go_wp2_with fail
  go_ret
  exact ⟨rfl, hKb.trans k1⟩

set_option maxRecDepth 100000 in
set_option maxHeartbeats 1000000 in
theorem loads3 (w : World) {B P : Int} {len cap : Nat} {a : Option Addr} {ix xr nop na nsh nf : Int} (h1 : ¬ B < 1) (h2 : ¬ 8 < B) (h : P < 1) :
    Calls Try.prog 7 #[.int .i64 B, .int .i64 P, .slice a len cap, .int .i64 ix, .int .u8 xr, .agg #[.int .i64 nop, .int .i64 na, .int .i64 nsh, .int .u8 nf]] w fun e w' => e = .returned (.bool true) ∧ Keep (fun _ => False) w w' := by
  have hKb : Keep (fun _ => False) w (w.alloc (.cells #[.int .i64 nop, .int .i64 na, .int .i64 nsh, .int .u8 nf] 38)) := (Keep.refl _ _).alloc _
  go_enter Try.func7, Try.ntmps7
  go_wp2_with fail
  refine (awake_any _).mono ?_
  rintro e w1 ⟨rfl, k1⟩
  go_wp2_with fail
  go_ret
  exact ⟨rfl, hKb.trans k1⟩

set_option maxRecDepth 100000 in
set_option maxHeartbeats 1000000 in
theorem loads4 (w : World) {B P : Int} {len cap : Nat} {a : Option Addr} {ix xr nop na nsh nf : Int} (h1 : ¬ B < 1) (h2 : ¬ 8 < B) (h3 : ¬ P < 1) (h : 8 < P) :
    Calls Try.prog 7 #[.int .i64 B, .int .i64 P, .slice a len cap, .int .i64 ix, .int .u8 xr, .agg #[.int .i64 nop, .int .i64 na, .int .i64 nsh, .int .u8 nf]] w fun e w' => e = .returned (.bool true) ∧ Keep (fun _ => False) w w' := by
  have hKb : Keep (fun _ => False) w (w.alloc (.cells #[.int .i64 nop, .int .i64 na, .int .i64 nsh, .int .u8 nf] 38)) := (Keep.refl _ _).alloc _
  go_enter Try.func7, Try.ntmps7
  go_wp2_with fail
  refine (awake_any _).mono ?_
  rintro e w1 ⟨rfl, k1⟩
  go_wp2_with fail
  go_ret
  exact ⟨rfl, hKb.trans k1⟩

set_option maxRecDepth 100000 in
set_option maxHeartbeats 1000000 in
theorem loads5 (w : World) {B P : Int} {len cap : Nat} {a : Option Addr} {ix xr nop na nsh nf : Int} (h1 : ¬ B < 1) (h2 : ¬ 8 < B) (h3 : ¬ P < 1) (h4 : ¬ 8 < P) (h : (30 : Int) < len) :
    Calls Try.prog 7 #[.int .i64 B, .int .i64 P, .slice a len cap, .int .i64 ix, .int .u8 xr, .agg #[.int .i64 nop, .int .i64 na, .int .i64 nsh, .int .u8 nf]] w fun e w' => e = .returned (.bool true) ∧ Keep (fun _ => False) w w' := by
  have hKb : Keep (fun _ => False) w (w.alloc (.cells #[.int .i64 nop, .int .i64 na, .int .i64 nsh, .int .u8 nf] 38)) := (Keep.refl _ _).alloc _
  go_enter Try.func7, Try.ntmps7
  go_wp2_with fail
  refine (awake_any _).mono ?_
  rintro e w1 ⟨rfl, k1⟩
  go_wp2_with fail
  go_ret
  exact ⟨rfl, hKb.trans k1⟩

theorem loads_any (w : World) (B P : Int) {len cap : Nat} {a : Option Addr} (ix xr nop na nsh nf : Int) (hA : len ≤ cap ∧ cap ≤ 9223372036854775807 ∧ (len = 0 ∨ ∃ b o, a = some ⟨b, o, none⟩ ∧ ∀ i, i < len → ∃ op x sh f, ActAt w b (o + i * 4) op x sh f)) :
    Calls Try.prog 7 #[.int .i64 B, .int .i64 P, .slice a len cap, .int .i64 ix, .int .u8 xr, .agg #[.int .i64 nop, .int .i64 na, .int .i64 nsh, .int .u8 nf]] w fun e w' => e = .returned (.bool true) ∧ Keep (fun _ => False) w w' := by
  by_cases h1 : B < 1
  · exact loads1 w h1
  by_cases h2 : 8 < B
  · exact loads2 w h1 h2
  by_cases h3 : P < 1
  · exact loads3 w h1 h2 h3
  by_cases h4 : 8 < P
  · exact loads4 w h1 h2 h3 h4
  by_cases h5 : (30 : Int) < len
  · exact loads5 w h1 h2 h3 h4 h5
  obtain ⟨b, rfl⟩ := Int.eq_ofNat_of_zero_le (show 0 ≤ B by omega)
  obtain ⟨p, rfl⟩ := Int.eq_ofNat_of_zero_le (show 0 ≤ P by omega)
  by_cases n0 : nop = 0
  · subst n0; exact loads_A w (by omega) (by omega) (by omega) (by omega) (by omega) hA.1 hA.2.1 hA.2.2
  by_cases n1 : nop = 1
  · subst n1; exact loads_B w (by omega) (by omega) (by omega) (by omega) (by omega) hA.1 hA.2.1 hA.2.2
  exact loads_C w (by omega) (by omega) (by omega) (by omega) n0 n1 (by omega) hA.1 hA.2.1 hA.2.2

/-- An argument that is a call. -/
theorem open_act {H : Type} {enc : TypeId × Value → H} {W : World} {base b0 : Nat} {spare : Nat → Bool} {held : Bool} {r : Reach} {v : Value} {d : DataW H} {p : List MemPlace} (hv : Value.okWide Try.prog W r b0 38 v) (h : DataW.Trod enc Try.prog W base spare held 38 v d p) :
    ∃ op a sh f : Int, v = .agg #[.int .i64 op, .int .i64 a, .int .i64 sh, .int .u8 f] := by
  obtain ⟨cs, rfl, hsz⟩ := okWide_struct Try.underlying38 hv
  obtain ⟨fuel, hf⟩ := h
  obtain ⟨op, a, sh, f, hcs, _⟩ := act_of_trod hf
  refine ⟨op, a, sh, f, ?_⟩
  have : cs.toList = [.int .i64 op, .int .i64 a, .int .i64 sh, .int .u8 f] := hcs
  rw [← Array.toArray_toList (xs := cs), this]
end Nd
end Go.Proofs.Ytjafjofonckaaaa
