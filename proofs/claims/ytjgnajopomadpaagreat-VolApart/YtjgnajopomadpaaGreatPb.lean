/-
  The document's own noughts, number.
-/
import Derived.Test.YtjgnajopomadpaaGreatPa
namespace Go.Proofs.YtjgnajopomadpaaGreat
open Go.ChangeShapes Go.WideShapes Go.ChangeAt Go.RowKit
namespace Tg
set_option maxRecDepth 100000 in
theorem noughts25 {n : Nat} (hn : n ≤ 16384) (w : World) : Calls Tryz.prog 73 #[.int .i64 (n : Int)] w fun e w' => e = .returned (.string (strOfNums (List.replicate n 0))) ∧ Keep (fun _ => False) w w' := by
  have hmk := make_bytes n hn w
  have hR := row_made w n hn
  have hK : Keep (fun _ => False) w (w.alloc (.cells (madeCells #[.int .u8 0] n) 5)) := (Keep.refl _ _).alloc _
  have hcv := hR.text
  clear hR
  go_enter Tryz.func73, Tryz.ntmps73
  go_wp2_with fail
  go_ret
  exact ⟨rfl, hK⟩
/-- Four bytes of a number, the lowest first. -/
def le4 (v : Int) : List Int := [v % 256, v / 256 % 256, v / 65536 % 256, v / 16777216 % 256]
theorem le4_b8 (v : Int) : B8 (le4 v) := by
  intro x hx
  unfold le4 at hx
  simp at hx
  omega
theorem wrap8 {x y : Int} (h : y = x % 256) : IntKind.u8.wrap x = y := by
  subst h
  simp [IntKind.wrap, IntKind.bits, IntKind.signed]
set_option maxRecDepth 100000 in
theorem number25 (v : Int) (w : World) : Calls Tryz.prog 74 #[.int .u32 v] w fun e w' => e = .returned (.string (strOfNums (le4 v))) ∧ Keep (fun _ => False) w w' := by
  have hR : Row (w.alloc (.cells #[.int .u8 (v % 256), .int .u8 (v / 256 % 256), .int .u8 (v / 65536 % 256), .int .u8 (v / 16777216 % 256)] 5)) (some ⟨w.heap.size, 0, none⟩) 4 4 (le4 v) := row_new w (le4 v) (0, 0) w.heap.size 4 rfl (by simp [le4]) (by omega) (le4_b8 v)
  have hK : Keep (fun _ => False) w (w.alloc (.cells #[.int .u8 (v % 256), .int .u8 (v / 256 % 256), .int .u8 (v / 65536 % 256), .int .u8 (v / 16777216 % 256)] 5)) := (Keep.refl _ _).alloc _
  have hcv := hR.text
  have q0 : IntKind.u8.wrap v = v % 256 := wrap8 rfl
  have q1 : IntKind.u8.wrap (v / 256) = v / 256 % 256 := wrap8 rfl
  have q2 : IntKind.u8.wrap (v / 65536) = v / 65536 % 256 := wrap8 rfl
  have q3 : IntKind.u8.wrap (v / 16777216) = v / 16777216 % 256 := wrap8 rfl
  have hL : RowKit.Hid (∃ L, L = le4 v) := ⟨_, rfl⟩
  generalize le4 v = L at hR hcv ⊢
  generalize v % 256 = b0 at *
  generalize v / 256 % 256 = b1 at *
  generalize v / 65536 % 256 = b2 at *
  generalize v / 16777216 % 256 = b3 at *
  clear hR hL
  go_enter Tryz.func74, Tryz.ntmps74
  go_wp2_with fail
  go_ret
  exact ⟨rfl, hK⟩
end Tg
end Go.Proofs.YtjgnajopomadpaaGreat
