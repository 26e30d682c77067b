/-
  unslashNumber, unslash and scan over any memory.
-/
import Derived.Test.YtgilagmgepogbaaDoorSmath
namespace Go.Proofs.YtgilagmgepogbaaDoor
open Go.ChangeShapes Go.WideShapes Go.ChangeAt Go.RowKit
namespace Tg
open Qm

set_option maxRecDepth 100000 in
theorem bs_extract (t : ByteArray) (i n : Nat) : bs (t.extract i (i + n)) = ((bs t).drop i).take n := by
  unfold bs
  rw [ByteArray.data_extract, Array.toList_extract, List.extract_eq_take_drop, List.map_take, List.map_drop, show i + n - i = n by omega]

set_option maxRecDepth 100000 in
/-- A new row of one byte becomes a text. -/
theorem text_one (w : World) {v : Nat} (hv : v < 256) : (convert 67 9 (.slice (some ⟨w.heap.size, 0, none⟩) 1 1)).run Tryd.prog (w.alloc (.cells #[.int .u8 (v : Int)] 5)) = .ok (.string (str [v])) (w.alloc (.cells #[.int .u8 (v : Int)] 5)) := by
  have h := (row_new w (ints [v]) (0, 0) w.heap.size 1 rfl (by simp [ints]) (by omega) (by simp [ints]; omega)).text
  rw [strOfNums_ints] at h
  exact h

set_option maxRecDepth 100000 in
set_option maxHeartbeats 2000000 in
theorem unnum2 (t : ByteArray) (hs : t.size ≤ 140737488355328) (w : World) (hG : Gl w) : Calls Tryd.prog 61 #[.string t, .int .i64 2] w fun e w' =>
    ((∃ x k, un2 (bs t) = some (x, k) ∧ e = .returned (.tuple #[.string (str x), .int .i64 (k : Nat)])) ∨ (un2 (bs t) = none ∧ e = .returned (.tuple #[.string ⟨#[]⟩, .int .i64 0]))) ∧ Keep (fun _ => False) w w' := by
  by_cases h4 : t.size < 4
  · have hn : un2 (bs t) = none := by unfold un2; rw [if_pos (by rw [bs_len]; exact h4)]
    have i4 : (t.size : Int) < 4 := by omega
    have HN : Hid (un2 (bs t) = none) := hn
    clear hn
    go_enter Tryd.func61, Tryd.ntmps61
    go_wp2_with fail
    go_ret2
    exact ⟨Or.inr ⟨HN.out, rfl⟩, Keep.refl _ _⟩
  · have hp := parse_any (t.extract 2 4) (by simp; omega) w hG
    rw [bs_extract t 2 2] at hp
    have i4 : ¬ (t.size : Int) < 4 := by omega
    have i5 : (4 : Int) ≤ t.size := by omega
    have hu : un2 (bs t) = (pv (((bs t).drop 2).take 2) 0).map (fun v => ([v], 4)) := by unfold un2; rw [if_neg (by rw [bs_len]; exact h4)]
    have hlen : (((bs t).drop 2).take 2).length = 2 := by rw [List.length_take, List.length_drop, bs_len]; omega
    have HU : Hid (un2 (bs t) = (pv (((bs t).drop 2).take 2) 0).map (fun v => ([v], 4))) := hu
    have HL : Hid ((((bs t).drop 2).take 2).length = 2) := hlen
    clear hu hlen h4
    go_enter Tryd.func61, Tryd.ntmps61
    go_wp2_with fail
    refine hp.mono ?_
    rintro e w' ⟨⟨v, hv, rfl⟩ | ⟨hv, p, rfl⟩, hk⟩
    · have hb := pv_bd _ _ _ hv
      rw [HL.out] at hb
      have ht := text_one w' (v := v) (by omega)
      have HV : Hid (pv (((bs t).drop 2).take 2) 0 = some v) := hv
      have hw : IntKind.u8.wrap (v : Int) = (v : Int) := by rw [IntKind.wrap_u8]; omega
      clear hv hb
      go_wp2_with fail
      go_ret2
      exact ⟨Or.inl ⟨[v], 4, by rw [HU.out, HV.out]; rfl, rfl⟩, hk.alloc _⟩
    · have HV : Hid (pv (((bs t).drop 2).take 2) 0 = none) := hv
      clear hv
      go_wp2_with fail
      go_ret2
      exact ⟨Or.inr ⟨by rw [HU.out, HV.out]; rfl, rfl⟩, hk⟩

set_option maxRecDepth 100000 in
set_option maxHeartbeats 2000000 in
theorem unnum4 (t : ByteArray) (hs : t.size ≤ 140737488355328) (w : World) (hG : Gl w) : Calls Tryd.prog 61 #[.string t, .int .i64 4] w fun e w' =>
    ((∃ x k, un4 (bs t) = some (x, k) ∧ e = .returned (.tuple #[.string (str x), .int .i64 (k : Nat)])) ∨ (un4 (bs t) = none ∧ e = .returned (.tuple #[.string ⟨#[]⟩, .int .i64 0]))) ∧ Keep (fun _ => False) w w' := by
  by_cases h4 : t.size < 6
  · have hn : un4 (bs t) = none := by unfold un4; rw [if_pos (by rw [bs_len]; exact h4)]
    have i4 : (t.size : Int) < 6 := by omega
    have HN : Hid (un4 (bs t) = none) := hn
    clear hn
    go_enter Tryd.func61, Tryd.ntmps61
    go_wp2_with fail
    go_ret2
    exact ⟨Or.inr ⟨HN.out, rfl⟩, Keep.refl _ _⟩
  · have hp := parse_any (t.extract 2 6) (by simp; omega) w hG
    rw [bs_extract t 2 4] at hp
    have i4 : ¬ (t.size : Int) < 6 := by omega
    have i5 : (6 : Int) ≤ t.size := by omega
    have hu : un4 (bs t) = (pv (((bs t).drop 2).take 4) 0).map (fun v => (encR v, 6)) := by unfold un4; rw [if_neg (by rw [bs_len]; exact h4)]
    have hlen : (((bs t).drop 2).take 4).length = 4 := by rw [List.length_take, List.length_drop, bs_len]; omega
    have HU : Hid (un4 (bs t) = (pv (((bs t).drop 2).take 4) 0).map (fun v => (encR v, 6))) := hu
    have HL : Hid ((((bs t).drop 2).take 4).length = 4) := hlen
    clear hu hlen h4
    go_enter Tryd.func61, Tryd.ntmps61
    go_wp2_with fail
    refine hp.mono ?_
    rintro e w' ⟨⟨v, hv, rfl⟩ | ⟨hv, p, rfl⟩, hk⟩
    · have hb := pv_bd _ _ _ hv
      rw [HL.out] at hb
      have he := encode_eq v
      have HV : Hid (pv (((bs t).drop 2).take 4) 0 = some v) := hv
      have hw : IntKind.i32.wrap (v : Int) = (v : Int) := by rw [IntKind.wrap_i32]; omega
      clear hv hb
      go_wp2_with fail
      go_ret2
      exact ⟨Or.inl ⟨encR v, 6, by rw [HU.out, HV.out]; rfl, rfl⟩, hk⟩
    · have HV : Hid (pv (((bs t).drop 2).take 4) 0 = none) := hv
      clear hv
      go_wp2_with fail
      go_ret2
      exact ⟨Or.inr ⟨by rw [HU.out, HV.out]; rfl, rfl⟩, hk⟩

set_option maxRecDepth 100000 in
theorem extract_one (t : ByteArray) (hl : 1 < t.size) : t.extract 1 2 = str [(t[1]'hl).toNat] := by
  rw [← str_bs (t.extract 1 2), bs_extract t 1 1, bs_at hl]
  congr 1
  have h1 : 1 < (bs t).length := by rw [bs_len]; exact hl
  have hd : (bs t).drop 1 = (bs t)[1] :: (bs t).drop 2 := List.drop_eq_getElem_cons h1
  rw [hd, List.getD, List.getElem?_eq_getElem h1]
  rfl

set_option maxRecDepth 100000 in
set_option maxHeartbeats 2000000 in
theorem unslash_any (t : ByteArray) (hs : t.size ≤ 140737488355328) (w : World) (hG : Gl w) : Calls Tryd.prog 55 #[.string t] w fun e w' =>
    ((∃ x k, uns (bs t) = some (x, k) ∧ e = .returned (.tuple #[.string (str x), .int .i64 (k : Nat)])) ∨ (uns (bs t) = none ∧ e = .returned (.tuple #[.string ⟨#[]⟩, .int .i64 0]))) ∧ Keep (fun _ => False) w w' := by
  by_cases h2 : t.size < 2
  · have hn : uns (bs t) = none := by unfold uns; rw [if_pos (by rw [bs_len]; exact h2)]
    have i4 : (t.size : Int) < 2 := by omega
    have HN : Hid (uns (bs t) = none) := hn
    clear hn
    go_enter Tryd.func55, Tryd.ntmps55
    go_wp2_with fail
    go_ret2
    exact ⟨Or.inr ⟨HN.out, rfl⟩, Keep.refl _ _⟩
  have hl : 1 < t.size := by omega
  have i2 : ¬ (t.size : Int) < 2 := by omega
  have i3 : (1 : Int) < t.size := by omega
  have i6 : (2 : Int) ≤ t.size := by omega
  have e1 := extract_one t hl
  have hu : uns (bs t) = if (t[1]'hl).toNat = 34 ∨ (t[1]'hl).toNat = 92 then some ([(t[1]'hl).toNat], 2) else if (t[1]'hl).toNat = 110 then some ([10], 2) else if (t[1]'hl).toNat = 116 then some ([9], 2)
      else if (t[1]'hl).toNat = 48 then some ([0], 2) else if (t[1]'hl).toNat = 120 then un2 (bs t) else if (t[1]'hl).toNat = 117 then un4 (bs t) else none := by
    unfold uns
    rw [if_neg (by rw [bs_len]; exact h2), bs_at hl]
  clear h2
  by_cases h34 : (t[1]'hl).toNat = 34
  · rw [if_pos (by omega)] at hu
    have hc : ((t[1]'hl).toNat : Int) = 34 := by omega
    have HU : Hid (uns (bs t) = some ([(t[1]'hl).toNat], 2)) := hu
    clear hu h34
    go_enter Tryd.func55, Tryd.ntmps55
    go_wp2_with fail
    go_ret2
    exact ⟨Or.inl ⟨[(t[1]'hl).toNat], 2, HU.out, by rw [← e1]; rfl⟩, Keep.refl _ _⟩
  by_cases h92 : (t[1]'hl).toNat = 92
  · rw [if_pos (by omega)] at hu
    have hc : ((t[1]'hl).toNat : Int) = 92 := by omega
    have n34 : (((t[1]'hl).toNat : Int) == 34) = false := by rw [beq_eq_false_iff_ne]; omega
    have m34 : ¬ ((t[1]'hl).toNat : Int) = 34 := by omega
    have HU : Hid (uns (bs t) = some ([(t[1]'hl).toNat], 2)) := hu
    clear hu h92
    go_enter Tryd.func55, Tryd.ntmps55
    go_wp2_with fail
    go_ret2
    exact ⟨Or.inl ⟨[(t[1]'hl).toNat], 2, HU.out, by rw [← e1]; rfl⟩, Keep.refl _ _⟩
  rw [if_neg (by omega)] at hu
  by_cases h110 : (t[1]'hl).toNat = 110
  · rw [if_pos h110] at hu
    have hc : ((t[1]'hl).toNat : Int) = 110 := by omega
    have n34 : (((t[1]'hl).toNat : Int) == 34) = false := by rw [beq_eq_false_iff_ne]; omega
    have m34 : ¬ ((t[1]'hl).toNat : Int) = 34 := by omega
    have n92 : (((t[1]'hl).toNat : Int) == 92) = false := by rw [beq_eq_false_iff_ne]; omega
    have m92 : ¬ ((t[1]'hl).toNat : Int) = 92 := by omega
    have HU : Hid (uns (bs t) = some ([10], 2)) := hu
    clear hu e1 h34 h92 h110
    go_enter Tryd.func55, Tryd.ntmps55
    go_wp2_with fail
    go_ret2
    exact ⟨Or.inl ⟨[10], 2, HU.out, rfl⟩, Keep.refl _ _⟩
  rw [if_neg h110] at hu
  by_cases h116 : (t[1]'hl).toNat = 116
  · rw [if_pos h116] at hu
    have hc : ((t[1]'hl).toNat : Int) = 116 := by omega
    have n34 : (((t[1]'hl).toNat : Int) == 34) = false := by rw [beq_eq_false_iff_ne]; omega
    have m34 : ¬ ((t[1]'hl).toNat : Int) = 34 := by omega
    have n92 : (((t[1]'hl).toNat : Int) == 92) = false := by rw [beq_eq_false_iff_ne]; omega
    have m92 : ¬ ((t[1]'hl).toNat : Int) = 92 := by omega
    have n110 : (((t[1]'hl).toNat : Int) == 110) = false := by rw [beq_eq_false_iff_ne]; omega
    have m110 : ¬ ((t[1]'hl).toNat : Int) = 110 := by omega
    have HU : Hid (uns (bs t) = some ([9], 2)) := hu
    clear hu e1 h34 h92 h110 h116
    go_enter Tryd.func55, Tryd.ntmps55
    go_wp2_with fail
    go_ret2
    exact ⟨Or.inl ⟨[9], 2, HU.out, rfl⟩, Keep.refl _ _⟩
  rw [if_neg h116] at hu
  by_cases h48 : (t[1]'hl).toNat = 48
  · rw [if_pos h48] at hu
    have hc : ((t[1]'hl).toNat : Int) = 48 := by omega
    have n34 : (((t[1]'hl).toNat : Int) == 34) = false := by rw [beq_eq_false_iff_ne]; omega
    have m34 : ¬ ((t[1]'hl).toNat : Int) = 34 := by omega
    have n92 : (((t[1]'hl).toNat : Int) == 92) = false := by rw [beq_eq_false_iff_ne]; omega
    have m92 : ¬ ((t[1]'hl).toNat : Int) = 92 := by omega
    have n110 : (((t[1]'hl).toNat : Int) == 110) = false := by rw [beq_eq_false_iff_ne]; omega
    have m110 : ¬ ((t[1]'hl).toNat : Int) = 110 := by omega
    have n116 : (((t[1]'hl).toNat : Int) == 116) = false := by rw [beq_eq_false_iff_ne]; omega
    have m116 : ¬ ((t[1]'hl).toNat : Int) = 116 := by omega
    have HU : Hid (uns (bs t) = some ([0], 2)) := hu
    clear hu e1 h34 h92 h110 h116 h48
    go_enter Tryd.func55, Tryd.ntmps55
    go_wp2_with fail
    go_ret2
    exact ⟨Or.inl ⟨[0], 2, HU.out, rfl⟩, Keep.refl _ _⟩
  rw [if_neg h48] at hu
  by_cases h120 : (t[1]'hl).toNat = 120
  · rw [if_pos h120] at hu
    have hq := unnum2 t hs w hG
    rw [← hu] at hq
    have hc : ((t[1]'hl).toNat : Int) = 120 := by omega
    have n34 : (((t[1]'hl).toNat : Int) == 34) = false := by rw [beq_eq_false_iff_ne]; omega
    have m34 : ¬ ((t[1]'hl).toNat : Int) = 34 := by omega
    have n92 : (((t[1]'hl).toNat : Int) == 92) = false := by rw [beq_eq_false_iff_ne]; omega
    have m92 : ¬ ((t[1]'hl).toNat : Int) = 92 := by omega
    have n110 : (((t[1]'hl).toNat : Int) == 110) = false := by rw [beq_eq_false_iff_ne]; omega
    have m110 : ¬ ((t[1]'hl).toNat : Int) = 110 := by omega
    have n116 : (((t[1]'hl).toNat : Int) == 116) = false := by rw [beq_eq_false_iff_ne]; omega
    have m116 : ¬ ((t[1]'hl).toNat : Int) = 116 := by omega
    have n48 : (((t[1]'hl).toNat : Int) == 48) = false := by rw [beq_eq_false_iff_ne]; omega
    have m48 : ¬ ((t[1]'hl).toNat : Int) = 48 := by omega
    clear hu e1 h34 h92 h110 h116 h48 h120
    go_enter Tryd.func55, Tryd.ntmps55
    go_wp2_with fail
    refine hq.mono ?_
    rintro e w' ⟨⟨x, k, hx, rfl⟩ | ⟨hx, rfl⟩, hk⟩
    · have HX : Hid (uns (bs t) = some (x, k)) := hx
      clear hx
      go_wp2_with fail
      go_ret2
      exact ⟨Or.inl ⟨x, k, HX.out, rfl⟩, hk⟩
    · have HX : Hid (uns (bs t) = none) := hx
      clear hx
      go_wp2_with fail
      go_ret2
      exact ⟨Or.inr ⟨HX.out, rfl⟩, hk⟩
  rw [if_neg h120] at hu
  by_cases h117 : (t[1]'hl).toNat = 117
  · rw [if_pos h117] at hu
    have hq := unnum4 t hs w hG
    rw [← hu] at hq
    have hc : ((t[1]'hl).toNat : Int) = 117 := by omega
    have n34 : (((t[1]'hl).toNat : Int) == 34) = false := by rw [beq_eq_false_iff_ne]; omega
    have m34 : ¬ ((t[1]'hl).toNat : Int) = 34 := by omega
    have n92 : (((t[1]'hl).toNat : Int) == 92) = false := by rw [beq_eq_false_iff_ne]; omega
    have m92 : ¬ ((t[1]'hl).toNat : Int) = 92 := by omega
    have n110 : (((t[1]'hl).toNat : Int) == 110) = false := by rw [beq_eq_false_iff_ne]; omega
    have m110 : ¬ ((t[1]'hl).toNat : Int) = 110 := by omega
    have n116 : (((t[1]'hl).toNat : Int) == 116) = false := by rw [beq_eq_false_iff_ne]; omega
    have m116 : ¬ ((t[1]'hl).toNat : Int) = 116 := by omega
    have n48 : (((t[1]'hl).toNat : Int) == 48) = false := by rw [beq_eq_false_iff_ne]; omega
    have m48 : ¬ ((t[1]'hl).toNat : Int) = 48 := by omega
    have n120 : (((t[1]'hl).toNat : Int) == 120) = false := by rw [beq_eq_false_iff_ne]; omega
    have m120 : ¬ ((t[1]'hl).toNat : Int) = 120 := by omega
    clear hu e1 h34 h92 h110 h116 h48 h120 h117
    go_enter Tryd.func55, Tryd.ntmps55
    go_wp2_with fail
    refine hq.mono ?_
    rintro e w' ⟨⟨x, k, hx, rfl⟩ | ⟨hx, rfl⟩, hk⟩
    · have HX : Hid (uns (bs t) = some (x, k)) := hx
      clear hx
      go_wp2_with fail
      go_ret2
      exact ⟨Or.inl ⟨x, k, HX.out, rfl⟩, hk⟩
    · have HX : Hid (uns (bs t) = none) := hx
      clear hx
      go_wp2_with fail
      go_ret2
      exact ⟨Or.inr ⟨HX.out, rfl⟩, hk⟩
  rw [if_neg h117] at hu
  have n34 : (((t[1]'hl).toNat : Int) == 34) = false := by rw [beq_eq_false_iff_ne]; omega
  have m34 : ¬ ((t[1]'hl).toNat : Int) = 34 := by omega
  have n92 : (((t[1]'hl).toNat : Int) == 92) = false := by rw [beq_eq_false_iff_ne]; omega
  have m92 : ¬ ((t[1]'hl).toNat : Int) = 92 := by omega
  have n110 : (((t[1]'hl).toNat : Int) == 110) = false := by rw [beq_eq_false_iff_ne]; omega
  have m110 : ¬ ((t[1]'hl).toNat : Int) = 110 := by omega
  have n116 : (((t[1]'hl).toNat : Int) == 116) = false := by rw [beq_eq_false_iff_ne]; omega
  have m116 : ¬ ((t[1]'hl).toNat : Int) = 116 := by omega
  have n48 : (((t[1]'hl).toNat : Int) == 48) = false := by rw [beq_eq_false_iff_ne]; omega
  have m48 : ¬ ((t[1]'hl).toNat : Int) = 48 := by omega
  have n120 : (((t[1]'hl).toNat : Int) == 120) = false := by rw [beq_eq_false_iff_ne]; omega
  have m120 : ¬ ((t[1]'hl).toNat : Int) = 120 := by omega
  have n117 : (((t[1]'hl).toNat : Int) == 117) = false := by rw [beq_eq_false_iff_ne]; omega
  have m117 : ¬ ((t[1]'hl).toNat : Int) = 117 := by omega
  have HU : Hid (uns (bs t) = none) := hu
  clear hu e1 h34 h92 h110 h116 h48 h120 h117
  go_enter Tryd.func55, Tryd.ntmps55
  go_wp2_with fail
  go_ret2
  exact ⟨Or.inr ⟨HU.out, rfl⟩, Keep.refl _ _⟩

set_option maxRecDepth 100000 in
theorem fixed_valid (l : List Nat) : valid (fixed (rune l)).1 := by
  unfold fixed
  by_cases h0 : (rune l).2 = 0
  · rw [if_pos h0]; decide
  · rw [if_neg h0]; exact (enc_rune h0).1
set_option maxRecDepth 100000 in
theorem fixed_len (l : List Nat) : (enc (fixed (rune l)).1).length ≤ 3 * (fixed (rune l)).2 := by
  unfold fixed
  by_cases h0 : (rune l).2 = 0
  · rw [if_pos h0]; decide
  · rw [if_neg h0]
    obtain ⟨_, r, _, hn⟩ := enc_rune h0
    rw [hn]; omega

set_option maxRecDepth 100000 in
theorem Qi.more {w wr w' : World} {k : Nat} {s : ByteArray} {pos g cap : Nat} {m : List Nat} (h : Qi w wr k s pos g cap m) (u : Keep (fun _ => False) wr w') : Qi w w' k s pos g cap m :=
  ⟨by rw [u.block k h.lt (fun e => e)]; exact h.it, h.own.keep u (fun e => e), h.keep.trans u, h.ne, h.new, h.newk⟩

/-- What scan answers. -/
def ScanOk (t : List Nat) (x : List Nat) (n : Nat) : Prop :=
  n ≤ t.length ∧ (∀ y ∈ x, y < 256) ∧ x.length ≤ 3 * t.length ∧ ∀ s0 rest, t = told s0 ++ rest → (∀ y ∈ s0, y < 256) → x = s0 ∧ n = (told s0).length
set_option maxRecDepth 100000 in
theorem ScanOk.none {t : List Nat} (h : ∀ s0 rest, t = told s0 ++ rest → ¬ (∀ y ∈ s0, y < 256)) : ScanOk t [] 0 :=
  ⟨by omega, by simp, by simp, fun s0 rest ht hb => absurd hb (h s0 rest ht)⟩

set_option maxHeartbeats 4000000 in
set_option maxRecDepth 100000 in
theorem scan_any (t : ByteArray) (hs : t.size ≤ 35184372088000) (w : World) (hG : Gl w) : Calls Tryd.prog 52 #[.string t] w fun e w' =>
    ∃ x n, e = .returned (.tuple #[.string (str x), .int .i64 (n : Nat)]) ∧ ScanOk (bs t) x n ∧ Keep (fun _ => False) w w' := by
  by_cases h0 : t.size = 0
  · have ht : t = ⟨#[]⟩ := by
      apply ByteArray.ext
      exact Array.eq_empty_of_size_eq_zero h0
    subst ht
    have hS : ScanOk (bs ⟨#[]⟩) [] 0 := ScanOk.none fun s0 rest h _ => by
      have := congrArg List.length h
      simp [told, bs] at this
    go_enter Tryd.func52, Tryd.ntmps52
    go_wp2_with fail
    go_ret2
    exact ⟨[], 0, rfl, hS, Keep.refl _ _⟩
  have hne : (t.toList == []) = false := by
    rw [ByteArray.toList_eq, beq_eq_false_iff_ne]
    intro e
    have : t.size = 0 := by rw [← bs_len]; unfold bs; rw [e]; rfl
    omega
  have hl : 0 < t.size := by omega
  have hl' : (0 : Int) < t.size := by omega
  by_cases h34 : (t[0]'hl).toNat = 34
  · have hc : ((t[0]'hl).toNat : Int) = 34 := by omega
    have hQ0 : Qi w ((w.alloc (.cells #[] 5)).iter t 0) (w.heap.size + 1) t 0 w.heap.size 0 [] := by
      have h1 : (w.alloc (.cells #[] 5)).heap.size = w.heap.size + 1 := by simp
      refine ⟨?_, ⟨⟨rfl, by simp, by omega, by simp [ints], Or.inl rfl⟩, fun i hi => absurd hi (by omega)⟩, ((Keep.refl _ _).alloc _).alloc _, by omega, by omega, by omega⟩
      rw [← h1]
      exact World.iter_heap _ _ _
    have hT0 := Ts_start (bs t)
    have HT0 : Hid (Ts (bs t) [] 0 1) := hT0
    have HQ0 : Hid (Qi w ((w.alloc (.cells #[] 5)).iter t 0) (w.heap.size + 1) t 0 w.heap.size 0 []) := hQ0
    clear h34 hT0 hQ0
    go_enter Tryd.func52, Tryd.ntmps52
    go_wp2_with fail
    clear hc hne
    go_loopw [4, 5] (fun b nn wr => ∃ (pos nx g' cap' : Nat) (m : List Nat), b = .slice (some ⟨g', 0, none⟩) m.length cap' ∧ nn = .int .i64 (nx : Nat) ∧ Qi w wr (w.heap.size + 1) t pos g' cap' m ∧ Ts (bs t) m pos nx ∧ m.length ≤ 3 * pos ∧ nx ≤ t.size ∧ pos ≤ t.size) (fun _ _ wr => t.size - wr.iterPos (w.heap.size + 1))
    case atStart => exact ⟨0, 1, w.heap.size, 0, [], rfl, rfl, HQ0.out, HT0.out, by simp, by omega, by omega⟩
    case round =>
      clear HQ0 HT0
      obtain ⟨pos, nx, g', cap', m, rfl, rfl, hQ, hT, hml, hnx, hps⟩ := hrel
      generalize w.heap.size + 1 = k at *
      by_cases hp : pos < t.size
      · obtain ⟨wn, hnxt, hQn⟩ := hQ.next hp
        have hdn : (bs t).drop pos ≠ [] := fun e => by
          have h1 := congrArg List.length e
          rw [List.length_drop, bs_len, List.length_nil] at h1
          omega
        have hpp := piece_pos hdn
        rw [List.length_drop, bs_len] at hpp
        rw [← fixed_piece] at hpp hQn
        have hfl := fixed_len ((bs t).drop pos)
        have hfv := fixed_valid ((bs t).drop pos)
        have HI : Hid (wr.iterPos k = pos) := itpos hQ.it
        have HP : Hid (1 ≤ (fixed (rune ((bs t).drop pos))).2 ∧ (fixed (rune ((bs t).drop pos))).2 ≤ t.size - pos ∧ (enc (fixed (rune ((bs t).drop pos))).1).length ≤ 3 * (fixed (rune ((bs t).drop pos))).2 ∧ m.length ≤ 3 * pos ∧ nx ≤ t.size) := ⟨hpp.1, hpp.2, hfl, hml, hnx⟩
        have HD : Hid ((bs t).drop pos ≠ []) := hdn
        have HT : Hid (Ts (bs t) m pos nx) := hT
        clear hpp hfl hdn hT hQ hml hnx
        by_cases hlt : pos < nx
        · have hlt' : (pos : Int) < nx := by omega
          have hT2 := Ts_skip HT.out hlt (by rw [bs_len]; exact hp)
          have HT2 : Hid (Ts (bs t) m (pos + (fixed (rune ((bs t).drop pos))).2) nx) := hT2
          clear hT2 hfv hlt
          go_wp2_with fail
          refine ⟨⟨_, nx, g', cap', m, rfl, rfl, hQn, HT2.out, ?_, ?_, ?_⟩, ?_⟩
          · have := HP.out; omega
          · exact HP.out.2.2.2.2
          · have := HP.out; omega
          · have := HP.out; rw [HI.out, itpos hQn.it]; omega
        have hlt' : ¬ (pos : Int) < nx := by omega
        by_cases h3 : (fixed (rune ((bs t).drop pos))).1 = 34
        · have hE := Ts_end HT.out hlt HD.out h3
          have hS : ScanOk (bs t) m (pos + 1) := ⟨by rw [bs_len]; omega, hQn.own.byte, by rw [bs_len]; have := HP.out; omega, hE⟩
          have HS : Hid (ScanOk (bs t) m (pos + 1)) := hS
          have htx := hQn.own.text
          rw [h3] at hnxt
          have hw : IntKind.i64.wrap ((pos : Int) + 1) = (pos : Int) + 1 := by rw [IntKind.wrap_i64]; omega
          clear hE hS h3 hfv hlt
          go_wp2_with fail
          go_ret2
          exact ⟨m, pos + 1, rfl, HS.out, hQn.keep⟩
        by_cases h9 : (fixed (rune ((bs t).drop pos))).1 = 92
        · have hE := Ts_esc HT.out hlt HD.out h9
          have hu := unslash_any (t.extract pos t.size) (by simp; omega) wn (hG.keep hQn.keep)
          rw [bs_drop] at hu
          rw [h9] at hnxt
          have HE : Hid ((uns ((bs t).drop pos) = none → ∀ s0 rest, bs t = told s0 ++ rest → ¬ (∀ y ∈ s0, y < 256)) ∧ (∀ x k, uns ((bs t).drop pos) = some (x, k) → Ts (bs t) (m ++ x) (pos + 1) (pos + k))) := hE
          have hf2 := (fix_ascii HD.out h9 (by omega)).1
          rw [hf2] at hQn
          have hp' : (pos : Int) ≤ t.size := by omega
          clear hE h9 hfv hlt h3 hf2
          go_wp2_with fail
          refine hu.mono ?_
          rintro e w' ⟨⟨x, q, hx, rfl⟩ | ⟨hx, rfl⟩, hk⟩
          · obtain ⟨b1, b2, b3, b4⟩ := uns_bd (fun y hy => bs_byte t y (List.mem_of_mem_drop hy)) hx
            rw [List.length_drop, bs_len] at b2
            have hQ2 := hQn.more hk
            obtain ⟨g3, cap3, w3, hrun3, hU3⟩ := hQ2.own.puts x b4 (by have := HP.out; omega)
            have hT3 := HE.out.2 x q hx
            have HT3 : Hid (Ts (bs t) (m ++ x) (pos + 1) (pos + q)) := hT3
            have HB : Hid (2 ≤ q ∧ q ≤ t.size - pos ∧ x.length ≤ 3) := ⟨b1, b2, b3⟩
            have hq0 : ((q : Int) == 0) = false := by rw [beq_eq_false_iff_ne]; omega
            have hq1 : ¬ (q : Int) = 0 := by omega
            have hw : IntKind.i64.wrap ((pos : Int) + q) = (pos : Int) + q := by rw [IntKind.wrap_i64]; omega
            clear b1 b2 b3 b4 hT3 hx
            go_wp2_with (at_builtin; refine wpList_append_text rfl (.tmp 50) (.tmp 51) 67 9 rfl (by rfl) (by rfl) hrun3 ?_)
            have hQ4 := hQ2.up hU3
            refine ⟨⟨pos + 1, pos + q, g3, cap3, m ++ x, by rw [List.length_append], by rw [Int.natCast_add], hQ4, HT3.out, ?_, ?_, ?_⟩, ?_⟩
            · have := HP.out; have := HB.out; rw [List.length_append]; omega
            · have := HB.out; omega
            · omega
            · rw [HI.out, itpos hQ4.it]; omega
          · have hS := ScanOk.none (HE.out.1 hx)
            have HS : Hid (ScanOk (bs t) [] 0) := hS
            clear hS hx
            go_wp2_with fail
            go_ret2
            exact ⟨[], 0, rfl, HS.out, hQn.keep.trans hk⟩
        · have hE := Ts_app HT.out hlt HD.out h3 h9
          have hap := append_rune hQn.own hfv (by have := HP.out; omega)
          have HE : Hid (Ts (bs t) (m ++ enc (fixed (rune ((bs t).drop pos))).1) (pos + (fixed (rune ((bs t).drop pos))).2) nx) := hE
          have a1 : (((fixed (rune ((bs t).drop pos))).1 : Int) == 34) = false := by rw [beq_eq_false_iff_ne]; omega
          have a2 : ¬ ((fixed (rune ((bs t).drop pos))).1 : Int) = 34 := by omega
          have a3 : (((fixed (rune ((bs t).drop pos))).1 : Int) == 92) = false := by rw [beq_eq_false_iff_ne]; omega
          have a4 : ¬ ((fixed (rune ((bs t).drop pos))).1 : Int) = 92 := by omega
          clear hE h9 hfv hlt h3
          generalize (fixed (rune ((bs t).drop pos))).1 = v at *
          go_wp2_with fail
          refine hap.mono ?_
          rintro e w' ⟨g3, cap3, rfl, hU3⟩
          go_wp2_with fail
          have hQ4 := hQn.up hU3
          refine ⟨⟨_, nx, g3, cap3, m ++ enc v, by rw [List.length_append], rfl, hQ4, HE.out, ?_, ?_, ?_⟩, ?_⟩
          · have := HP.out; rw [List.length_append]; omega
          · exact HP.out.2.2.2.2
          · have := HP.out; omega
          · have := HP.out; rw [HI.out, itpos hQ4.it]; omega
      · have hnxt : ∀ ty, (Instr.next (.pointer (some ⟨k, 0, none⟩)) true ty).run Tryd.prog wr = _ := fun ty => run_next_none hQ.it hp ty
        have hS := ScanOk.none (Ts_out hT (by rw [bs_len]; omega))
        have HS : Hid (ScanOk (bs t) [] 0) := hS
        clear hS hT
        go_wp2_with fail
        go_ret2
        exact ⟨[], 0, rfl, HS.out, hQ.keep⟩
  · have n34 : (((t[0]'hl).toNat : Int) == 34) = false := by rw [beq_eq_false_iff_ne]; omega
    have m34 : ¬ ((t[0]'hl).toNat : Int) = 34 := by omega
    have hS : ScanOk (bs t) [] 0 := ScanOk.none fun s0 rest h _ => by
      rw [bs_at hl, h] at h34
      exact h34 rfl
    have HS : Hid (ScanOk (bs t) [] 0) := hS
    clear h34 hS h0
    go_enter Tryd.func52, Tryd.ntmps52
    go_wp2_with fail
    go_ret2
    exact ⟨[], 0, rfl, HS.out, Keep.refl _ _⟩
end Tg
end Go.Proofs.YtgilagmgepogbaaDoor
