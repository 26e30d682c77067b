/-
  Runes appended and told, Quote, over any memory.
-/
import Derived.Test.YtgilagmgepogbaaDoorSmall
namespace Go.Proofs.YtgilagmgepogbaaDoor
open Go.ChangeShapes Go.WideShapes Go.ChangeAt Go.RowKit
namespace Tg
open Qm

theorem Ow.put1 {w : World} {g cap : Nat} {l : List Nat} (h : Ow w g cap l) {x : Nat} {X : Int} (hx : x < 256) (ex : X = x) (hlen : l.length + 1 ≤ 140737488355323) :
    ∃ g' cap' w2, (Builtin.append_ #[67, 67] 67 #[.slice (some ⟨g, 0, none⟩) l.length cap, .slice (some ⟨w.heap.size, 0, none⟩) 1 1]).run Tryd.prog (w.alloc (.cells #[.int .u8 X] 5)) = .ok (.slice (some ⟨g', 0, none⟩) (l.length + 1) cap') w2 ∧ Up w w2 g g' cap' (l ++ [x]) := by
  subst ex
  exact h.put [x] (by simp; omega) rfl hlen
theorem Ow.put2 {w : World} {g cap : Nat} {l : List Nat} (h : Ow w g cap l) {x y : Nat} {X Y : Int} (hx : x < 256) (hy : y < 256) (ex : X = x) (ey : Y = y) (hlen : l.length + 2 ≤ 140737488355323) :
    ∃ g' cap' w2, (Builtin.append_ #[67, 67] 67 #[.slice (some ⟨g, 0, none⟩) l.length cap, .slice (some ⟨w.heap.size, 0, none⟩) 2 2]).run Tryd.prog (w.alloc (.cells #[.int .u8 X, .int .u8 Y] 5)) = .ok (.slice (some ⟨g', 0, none⟩) (l.length + 2) cap') w2 ∧ Up w w2 g g' cap' (l ++ [x, y]) := by
  subst ex ey
  exact h.put [x, y] (by simp; omega) rfl hlen
theorem Ow.put3 {w : World} {g cap : Nat} {l : List Nat} (h : Ow w g cap l) {x y z : Nat} {X Y Z : Int} (hx : x < 256) (hy : y < 256) (hz : z < 256) (ex : X = x) (ey : Y = y) (ez : Z = z) (hlen : l.length + 3 ≤ 140737488355323) :
    ∃ g' cap' w2, (Builtin.append_ #[67, 67] 67 #[.slice (some ⟨g, 0, none⟩) l.length cap, .slice (some ⟨w.heap.size, 0, none⟩) 3 3]).run Tryd.prog (w.alloc (.cells #[.int .u8 X, .int .u8 Y, .int .u8 Z] 5)) = .ok (.slice (some ⟨g', 0, none⟩) (l.length + 3) cap') w2 ∧ Up w w2 g g' cap' (l ++ [x, y, z]) := by
  subst ex ey ez
  exact h.put [x, y, z] (by simp; omega) rfl hlen
theorem Ow.put4 {w : World} {g cap : Nat} {l : List Nat} (h : Ow w g cap l) {x y z t : Nat} {X Y Z T : Int} (hx : x < 256) (hy : y < 256) (hz : z < 256) (ht : t < 256) (ex : X = x) (ey : Y = y) (ez : Z = z) (et : T = t) (hlen : l.length + 4 ≤ 140737488355323) :
    ∃ g' cap' w2, (Builtin.append_ #[67, 67] 67 #[.slice (some ⟨g, 0, none⟩) l.length cap, .slice (some ⟨w.heap.size, 0, none⟩) 4 4]).run Tryd.prog (w.alloc (.cells #[.int .u8 X, .int .u8 Y, .int .u8 Z, .int .u8 T] 5)) = .ok (.slice (some ⟨g', 0, none⟩) (l.length + 4) cap') w2 ∧ Up w w2 g g' cap' (l ++ [x, y, z, t]) := by
  subst ex ey ez et
  exact h.put [x, y, z, t] (by simp; omega) rfl hlen

set_option maxRecDepth 100000 in
/-- A rune's bytes put behind a row. -/
theorem append_rune {w : World} {g cap : Nat} {l : List Nat} (h : Ow w g cap l) {v : Nat} (hv : valid v) (hl : l.length ≤ 140737488355300) :
    Calls Tryd.prog 56 #[.slice (some ⟨g, 0, none⟩) l.length cap, .int .i32 (v : Int)] w fun e w' => ∃ g' cap', e = .returned (.slice (some ⟨g', 0, none⟩) (l.length + (enc v).length) cap') ∧ Up w w' g g' cap' (l ++ enc v) := by
  unfold valid at hv
  by_cases h1 : v < 128
  · have he : enc v = [v] := by unfold enc; rw [if_pos h1]
    have i1 : (v : Int) ≤ 127 := by omega
    obtain ⟨g', cap', w2, hrun, hU⟩ := h.put1 (x := v) (X := (v : Int)) (by omega) rfl (by omega)
    rw [he]
    clear he
    go_enter Tryd.func56, Tryd.ntmps56
    go_wp2_with (at_builtin; refine wpList_append_run rfl (.tmp 8) (.tmp 11) 67 rfl (by rfl) (by rfl) hrun ?_)
    go_ret
    exact ⟨_, _, rfl, hU⟩
  by_cases h2 : v < 2048
  · have he : enc v = [192 + v / 64, 128 + v % 64] := by unfold enc; rw [if_neg h1, if_pos h2]
    have i1 : ¬ (v : Int) ≤ 127 := by omega
    have i2 : (v : Int) ≤ 2047 := by omega
    obtain ⟨g', cap', w2, hrun, hU⟩ := h.put2 (x := 192 + v / 64) (y := 128 + v % 64) (X := 192 + (v : Int) / 64) (Y := 128 + (v : Int) % 64) (by omega) (by omega) (by omega) (by omega) (by omega)
    rw [he]
    clear he
    go_enter Tryd.func56, Tryd.ntmps56
    go_wp2_with (first | go_in | (at_builtin; refine wpList_append_run rfl (.tmp 14) (.tmp 23) 67 rfl (by rfl) (by rfl) hrun ?_))
    go_ret
    exact ⟨_, _, rfl, hU⟩
  by_cases h3 : v < 65536
  · have he : enc v = [224 + v / 4096, 128 + v / 64 % 64, 128 + v % 64] := by unfold enc; rw [if_neg h1, if_neg h2, if_pos h3]
    have i1 : ¬ (v : Int) ≤ 127 := by omega
    have i2 : ¬ (v : Int) ≤ 2047 := by omega
    obtain ⟨g', cap', w2, hrun, hU⟩ := h.put3 (x := 224 + v / 4096) (y := 128 + v / 64 % 64) (z := 128 + v % 64) (X := 224 + (v : Int) / 4096) (Y := 128 + (v : Int) / 64 % 64) (Z := 128 + (v : Int) % 64) (by omega) (by omega) (by omega) (by omega) (by omega) (by omega) (by omega)
    rw [he]
    clear he
    by_cases h4 : v < 55296
    · have i3 : (v : Int) < 55296 := by omega
      go_enter Tryd.func56, Tryd.ntmps56
      go_wp2_with (first | go_in | (at_builtin; refine wpList_append_run rfl (.tmp 34) (.tmp 48) 67 rfl (by rfl) (by rfl) hrun ?_))
      go_ret
      exact ⟨_, _, rfl, hU⟩
    · have i3 : ¬ (v : Int) < 55296 := by omega
      have i4 : (57343 : Int) < v := by omega
      have i5 : (v : Int) ≤ 65535 := by omega
      go_enter Tryd.func56, Tryd.ntmps56
      go_wp2_with (first | go_in | (at_builtin; refine wpList_append_run rfl (.tmp 34) (.tmp 48) 67 rfl (by rfl) (by rfl) hrun ?_))
      go_ret
      exact ⟨_, _, rfl, hU⟩
  · have he : enc v = [240 + v / 262144, 128 + v / 4096 % 64, 128 + v / 64 % 64, 128 + v % 64] := by unfold enc; rw [if_neg h1, if_neg h2, if_neg h3]
    have i1 : ¬ (v : Int) ≤ 127 := by omega
    have i2 : ¬ (v : Int) ≤ 2047 := by omega
    have i3 : ¬ (v : Int) < 55296 := by omega
    have i4 : (57343 : Int) < v := by omega
    have i5 : ¬ (v : Int) ≤ 65535 := by omega
    have i6 : (65535 : Int) < v := by omega
    have i7 : (v : Int) ≤ 1114111 := by omega
    obtain ⟨g', cap', w2, hrun, hU⟩ := h.put4 (x := 240 + v / 262144) (y := 128 + v / 4096 % 64) (z := 128 + v / 64 % 64) (t := 128 + v % 64) (X := 240 + (v : Int) / 262144) (Y := 128 + (v : Int) / 4096 % 64) (Z := 128 + (v : Int) / 64 % 64) (T := 128 + (v : Int) % 64) (by omega) (by omega) (by omega) (by omega) (by omega) (by omega) (by omega) (by omega) (by omega)
    rw [he]
    clear he
    go_enter Tryd.func56, Tryd.ntmps56
    go_wp2_with (first | go_in | (at_builtin; refine wpList_append_run rfl (.tmp 57) (.tmp 76) 67 rfl (by rfl) (by rfl) hrun ?_))
    go_ret
    exact ⟨_, _, rfl, hU⟩

theorem hexs_cons (v : Nat) : ∀ k, hexs v (k + 1) = hexd (v / 16 ^ k % 16) :: hexs v k
  | 0 => by simp [hexs]
  | k + 1 => by
    have h := hexs_cons (v / 16) k
    rw [hexs, h, Nat.div_div_eq_div_mul, ← Nat.pow_succ', List.cons_append]
    rfl

theorem dig_fin : ∀ i : Fin 16, ((ByteArray.mk #[48, 49, 50, 51, 52, 53, 54, 55, 56, 57, 97, 98, 99, 100, 101, 102])[i.1]'i.2).toNat = hexd i.1 := by decide
theorem dig_at (i : Nat) (h : i < (ByteArray.mk #[48, 49, 50, 51, 52, 53, 54, 55, 56, 57, 97, 98, 99, 100, 101, 102]).size) : ((ByteArray.mk #[48, 49, 50, 51, 52, 53, 54, 55, 56, 57, 97, 98, 99, 100, 101, 102])[i]'h).toNat = hexd i := dig_fin ⟨i, h⟩

set_option maxRecDepth 100000 in
/-- A slash, a letter and digits behind a row. -/
theorem tell_number {w : World} {g cap : Nat} {l : List Nat} (h : Ow w g cap l) {c n v : Nat} (hc : c < 256) (hn : n ≤ 4) (hv : v < 1114112) (hl : l.length ≤ 140737488355300) :
    Calls Tryd.prog 59 #[.slice (some ⟨g, 0, none⟩) l.length cap, .int .u8 (c : Int), .int .i64 (n : Int), .int .i64 (v : Int)] w fun e w' => ∃ g' cap', e = .returned (.slice (some ⟨g', 0, none⟩) (l.length + (2 + n)) cap') ∧ Up w w' g g' cap' (l ++ ([92, c] ++ hexs v n)) := by
  obtain ⟨g1, cap1, w1, hrun, hU⟩ := h.put2 (x := 92) (y := c) (X := 92) (Y := c) (by omega) hc rfl rfl (by omega)
  have hs : IntKind.i64.wrap ((n : Int) - 1) = (n : Int) - 1 := by rw [IntKind.wrap_i64]; omega
  go_enter Tryd.func59, Tryd.ntmps59
  go_wp2_with (at_builtin; refine wpList_append_run rfl (.tmp 10) (.tmp 12) 67 rfl (by rfl) (by rfl) hrun ?_)
  clear hrun hs
  go_loopw [0, 9] (fun b i wr => ∃ (g' cap' k : Nat) (m : List Nat), b = .slice (some ⟨g', 0, none⟩) (l.length + m.length) cap' ∧ i = .int .i64 ((k : Int) - 1) ∧ k ≤ n ∧ Up w wr g g' cap' (l ++ m) ∧ [92, c] ++ hexs v n = m ++ hexs v k) (fun _ i _ => (intOf i + 1).toNat)
  case atStart => exact ⟨g1, cap1, n, [92, c], by simp, rfl, by omega, hU, rfl⟩
  case round =>
    obtain ⟨g', cap', k, m, rfl, rfl, hk, hU', hm⟩ := hrel
    have hml : m.length + k = 2 + n := by
      have := congrArg List.length hm
      simp [hexs_len] at this
      omega
    have HM : Hid ([92, c] ++ hexs v n = m ++ hexs v k) := hm
    have HL : Hid (m.length + k = 2 + n) := hml
    clear hm hU
    rcases k with _ | k
    · have hml' : l.length + m.length = l.length + (2 + n) := by omega
      have HX : Hid (l.length + m.length = l.length + (2 + n)) := hml'
      clear hml hml'
      go_wp2_with fail
      go_ret
      show ∃ g' cap', _ ∧ Up w wr g g' cap' (l ++ ([92, c] ++ hexs v n))
      have e := HM.out
      rw [show hexs v 0 = [] from rfl, List.append_nil] at e
      rw [e]
      exact ⟨_, _, by rw [← HX.out]; rfl, hU'⟩
    · have hD : m ++ hexs v (k + 1) = (m ++ [hexd (v / 16 ^ k % 16)]) ++ hexs v k := by rw [hexs_cons]; simp
      have HD : Hid (m ++ hexs v (k + 1) = (m ++ [hexd (v / 16 ^ k % 16)]) ++ hexs v k) := hD
      clear hD
      have hd : hexd (v / 16 ^ k % 16) < 256 := by unfold hexd; split <;> omega
      have hk4 : k = 0 ∨ k = 1 ∨ k = 2 ∨ k = 3 := by omega
      clear hml
      rcases hk4 with rfl | rfl | rfl | rfl
      · have hq : v / 16 ^ 0 % 16 = v % 16 := by simp
        rw [hq] at hd HD
        obtain ⟨g3, cap3, w3, hrun3, hU3⟩ := hU'.own.put1 (X := (((ByteArray.mk #[48, 49, 50, 51, 52, 53, 54, 55, 56, 57, 97, 98, 99, 100, 101, 102])[v % 16]'(Nat.mod_lt _ (by decide : 0 < 16))).toNat : Nat)) hd (by rw [dig_at]) (by rw [List.length_append]; have := HL.out; omega)
        rw [List.length_append] at hrun3
        clear hq hd
        go_wp2_with (at_builtin; refine wpList_append_run rfl (.tmp 20) (.tmp 27) 67 rfl (by rfl) (by rfl) hrun3 ?_)
        refine ⟨⟨g3, cap3, 0, m ++ [hexd (v % 16)], by simp [Nat.add_assoc], rfl, by omega, by rw [← List.append_assoc]; exact hU'.trans hU3, by rw [HM.out, HD.out]⟩, by simp [intOf]⟩
      · have hq : v / 16 ^ 1 % 16 = v / 16 % 16 := by simp
        rw [hq] at hd HD
        obtain ⟨g3, cap3, w3, hrun3, hU3⟩ := hU'.own.put1 (X := (((ByteArray.mk #[48, 49, 50, 51, 52, 53, 54, 55, 56, 57, 97, 98, 99, 100, 101, 102])[v / 16 % 16]'(Nat.mod_lt _ (by decide : 0 < 16))).toNat : Nat)) hd (by rw [dig_at]) (by rw [List.length_append]; have := HL.out; omega)
        rw [List.length_append] at hrun3
        clear hq hd
        go_wp2_with (at_builtin; refine wpList_append_run rfl (.tmp 20) (.tmp 27) 67 rfl (by rfl) (by rfl) hrun3 ?_)
        refine ⟨⟨g3, cap3, 1, m ++ [hexd (v / 16 % 16)], by simp [Nat.add_assoc], rfl, by omega, by rw [← List.append_assoc]; exact hU'.trans hU3, by rw [HM.out, HD.out]⟩, by simp [intOf]⟩
      · have hq : v / 16 ^ 2 % 16 = v / 256 % 16 := by simp
        rw [hq] at hd HD
        obtain ⟨g3, cap3, w3, hrun3, hU3⟩ := hU'.own.put1 (X := (((ByteArray.mk #[48, 49, 50, 51, 52, 53, 54, 55, 56, 57, 97, 98, 99, 100, 101, 102])[v / 256 % 16]'(Nat.mod_lt _ (by decide : 0 < 16))).toNat : Nat)) hd (by rw [dig_at]) (by rw [List.length_append]; have := HL.out; omega)
        rw [List.length_append] at hrun3
        clear hq hd
        go_wp2_with (at_builtin; refine wpList_append_run rfl (.tmp 20) (.tmp 27) 67 rfl (by rfl) (by rfl) hrun3 ?_)
        refine ⟨⟨g3, cap3, 2, m ++ [hexd (v / 256 % 16)], by simp [Nat.add_assoc], rfl, by omega, by rw [← List.append_assoc]; exact hU'.trans hU3, by rw [HM.out, HD.out]⟩, by simp [intOf]⟩
      · have hq : v / 16 ^ 3 % 16 = v / 4096 % 16 := by simp
        rw [hq] at hd HD
        obtain ⟨g3, cap3, w3, hrun3, hU3⟩ := hU'.own.put1 (X := (((ByteArray.mk #[48, 49, 50, 51, 52, 53, 54, 55, 56, 57, 97, 98, 99, 100, 101, 102])[v / 4096 % 16]'(Nat.mod_lt _ (by decide : 0 < 16))).toNat : Nat)) hd (by rw [dig_at]) (by rw [List.length_append]; have := HL.out; omega)
        rw [List.length_append] at hrun3
        clear hq hd
        go_wp2_with (at_builtin; refine wpList_append_run rfl (.tmp 20) (.tmp 27) 67 rfl (by rfl) (by rfl) hrun3 ?_)
        refine ⟨⟨g3, cap3, 3, m ++ [hexd (v / 4096 % 16)], by simp [Nat.add_assoc], rfl, by omega, by rw [← List.append_assoc]; exact hU'.trans hU3, by rw [HM.out, HD.out]⟩, by simp [intOf]⟩
end Tg
end Go.Proofs.YtgilagmgepogbaaDoor
