/-
  The document's own array: Capacity, Right, New, Read, Write.
-/
import Derived.Test.YtikepmdlpalpfaaMm
namespace Go.Proofs.Ytikepmdlpalpfaa
open Go.ChangeShapes Go.WideShapes Go.ChangeAt Go.RowKit
namespace Tg
def okR (cap lba n : Int) : Bool := decide (1 ≤ n) && (decide (0 ≤ lba) && decide (n ≤ cap - lba))
theorem okR_iff {cap lba n : Int} : okR cap lba n = true ↔ 1 ≤ n ∧ 0 ≤ lba ∧ n ≤ cap - lba := by unfold okR; simp
theorem right9 (w : World) (cap lba n : Int) (hc : cap ≤ 9223372036854775807) :
    Calls Try.prog 21 #[.int .i64 cap, .int .i64 lba, .int .i64 n] w fun e w' => e = .returned (.bool (okR cap lba n)) ∧ w' = w := by
  unfold okR
  by_cases h1 : 1 ≤ n
  · by_cases h2 : n ≤ cap
    · by_cases h3 : 0 ≤ lba
      · have dw := wrapI (x := cap - n) (by omega) (by omega)
        go_enter Try.func21, Try.ntmps21
        go_wp2_with fail
        go_ret
        refine ⟨?_, rfl⟩
        have e : decide (lba ≤ cap - n) = decide (n ≤ cap - lba) := decide_eq_decide.2 (by omega)
        simp [h1, h3, e]
      · go_enter Try.func21, Try.ntmps21
        go_wp2_with fail
        go_ret
        exact ⟨by simp; intros; omega, rfl⟩
    · go_enter Try.func21, Try.ntmps21
      go_wp2_with fail
      go_ret
      exact ⟨by simp; intros; omega, rfl⟩
  · go_enter Try.func21, Try.ntmps21
    go_wp2_with fail
    go_ret
    exact ⟨by simp; intros; omega, rfl⟩
theorem cap_any {s : ByteArray} {N : Nat} (hs : s.size = N * 32) (hN : N ≤ 512) (w : World) : Calls Try.prog 22 #[.string s] w fun e w' => e = .returned (.int .i64 (N : Int)) ∧ w' = w := by
  have q1 : (s.size : Int).tdiv 32 = (N : Int) := by rw [Int.tdiv_eq_ediv_of_nonneg (by omega)]; omega
  have q2 := wrapI (x := (N : Int)) (by omega) (by omega)
  have q3 : (s.size : Int) ≤ 9223372036854775807 := by omega
  clear hs hN
  go_enter Try.func22, Try.ntmps22
  go_wp2_with fail
  go_ret
  exact ⟨rfl, rfl⟩
set_option maxRecDepth 100000 in
theorem make_bytes (n : Nat) (hn : n ≤ 16384) (w : World) : (Instr.makeSlice 45 (.int .i64 (n : Int)) (.int .i64 (n : Int))).run Try.prog w =
    .ok (.slice (some ⟨w.heap.size, 0, none⟩) n n) (w.alloc (.cells (madeCells #[.int .u8 0] n) 5)) := by
  obtain ⟨i, hi, hz0, hz1, hz2⟩ := info_parts info5
  have := run_make (P := Try.prog) w 45 5 i _ Try.underlying45 hi hz0 .i64 .i64 n n (by omega) (by omega) (by rw [hz2]; omega) (by omega)
  rw [hz1, Nat.mul_one] at this
  exact this
theorem made_eq (n : Nat) : madeCells #[.int .u8 0] n = ((List.replicate n (0 : Int)).map (Value.int .u8)).toArray := by
  apply Array.ext'
  rw [toList_madeCells_one]
  simp
theorem row_made (w : World) (n : Nat) (hn : n ≤ 16384) : Row (w.alloc (.cells (madeCells #[.int .u8 0] n) 5)) (some ⟨w.heap.size, 0, none⟩) n n (List.replicate n 0) := by
  rw [made_eq]
  have := row_new w (List.replicate n 0) (0, 0) w.heap.size n rfl (by simp) (by omega) (fun x hx => by have := List.eq_of_mem_replicate hx; omega)
  rwa [List.length_replicate] at this
theorem free_made (w : World) (n : Nat) : Free (w.alloc (.cells (madeCells #[.int .u8 0] n) 5)) w.heap.size n := by
  rw [made_eq]
  intro i hi
  refine ⟨?_, World.frozen?_alloc_new w _ 5 i⟩
  rw [World.cell?_alloc_mark]
  simp [hi]
set_option maxRecDepth 100000 in
theorem rnew17 {n : Nat} (hn : n ≤ 512) (w : World) : Calls Try.prog 11 #[.int .i64 (n : Int)] w fun e w' => e = .returned (.string (strOfNums (List.replicate (n * 32) 0))) ∧ Keep (fun _ => False) w w' := by
  have q1 : IntKind.i64.wrap ((n : Int) * 32) = ((n * 32 : Nat) : Int) := by rw [show (n : Int) * 32 = ((n * 32 : Nat) : Int) by omega]; exact wrapI (by omega) (by omega)
  have hmk := make_bytes (n * 32) (by omega) w
  have hR := row_made w (n * 32) (by omega)
  have hK : Keep (fun _ => False) w (w.alloc (.cells (madeCells #[.int .u8 0] (n * 32)) 5)) := (Keep.refl _ _).alloc _
  have hcv := hR.text
  generalize n * 32 = m at *
  clear hR
  go_enter Try.func11, Try.ntmps11
  go_wp2_with fail
  go_ret
  exact ⟨rfl, hK⟩
set_option maxRecDepth 100000 in
theorem rread17_no {s : ByteArray} {N : Nat} (hs : s.size = N * 32) (hN : N ≤ 512) {lba n : Int} (h : okR N lba n = false) (w : World) : Calls Try.prog 14 #[.string s, .int .i64 lba, .int .i64 n] w fun e w' => e = .returned (.tuple #[.string ⟨#[]⟩, .bool false]) ∧ w' = w := by
  have hc := fun w => cap_any hs hN w
  have hr := fun w => right9 w (N : Int) lba n (by omega)
  rw [h] at hr
  clear h hs
  go_enter Try.func14, Try.ntmps14
  go_wp2_with fail
  refine (hc _).mono ?_
  rintro e w1 ⟨rfl, e0⟩
  subst e0
  go_wp2_with fail
  refine (hr _).mono ?_
  rintro e w1 ⟨rfl, e0⟩
  subst e0
  go_wp2_with fail
  go_ret2
  exact ⟨rfl, rfl⟩
set_option maxRecDepth 100000 in
theorem rread17_yes {l : List Int} {N : Nat} (hs : l.length = N * 32) (hN : N ≤ 512) {lba n : Nat} (h : okR N lba n = true) (w : World) : Calls Try.prog 14 #[.string (strOfNums l), .int .i64 (lba : Int), .int .i64 (n : Int)] w fun e w' => e = .returned (.tuple #[.string (strOfNums (rdL l lba n)), .bool true]) ∧ w' = w := by
  have hz : (strOfNums l).size = N * 32 := by rw [strOfNums_size, hs]
  have hc := fun w => cap_any hz hN w
  have hr := fun w => right9 w (N : Int) lba n (by omega)
  rw [h] at hr
  have hb := okR_iff.1 h
  have q1 : IntKind.i64.wrap ((lba : Int) * 32) = ((lba * 32 : Nat) : Int) := by rw [show (lba : Int) * 32 = ((lba * 32 : Nat) : Int) by omega]; exact wrapI (by omega) (by omega)
  have q2 : IntKind.i64.wrap ((lba : Int) + n) = ((lba + n : Nat) : Int) := by rw [show (lba : Int) + n = ((lba + n : Nat) : Int) by omega]; exact wrapI (by omega) (by omega)
  have q3 : IntKind.i64.wrap (((lba + n : Nat) : Int) * 32) = (((lba + n) * 32 : Nat) : Int) := by rw [show ((lba + n : Nat) : Int) * 32 = (((lba + n) * 32 : Nat) : Int) by omega]; exact wrapI (by omega) (by omega)
  have d1 : lba * 32 ≤ (lba + n) * 32 := by omega
  have d2 : (lba + n) * 32 ≤ (strOfNums l).size := by omega
  have hE : Hid ((strOfNums l).extract (lba * 32) ((lba + n) * 32) = strOfNums (rdL l lba n)) := by show _ = _; rw [str_extract]; rfl
  generalize strOfNums (rdL l lba n) = r at *
  generalize strOfNums l = s at *
  generalize lba * 32 = A at *
  generalize hX : lba + n = X at *
  generalize X * 32 = B at *
  clear h hs hz hb hX
  go_enter Try.func14, Try.ntmps14
  go_wp2_with fail
  refine (hc _).mono ?_
  rintro e w1 ⟨rfl, e0⟩
  subst e0
  go_wp2_with fail
  refine (hr _).mono ?_
  rintro e w1 ⟨rfl, e0⟩
  subst e0
  go_wp2_with fail
  go_ret2
  exact ⟨by rw [← show _ = r from hE]; rfl, rfl⟩
end Tg
end Go.Proofs.Ytikepmdlpalpfaa
