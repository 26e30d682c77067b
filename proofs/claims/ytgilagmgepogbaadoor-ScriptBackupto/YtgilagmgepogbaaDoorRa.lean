/-
  The document's own words and lines of a script: blank, Word, empty, Skip, Lines over any memory, for texts of any bytes.
-/
import Derived.Test.YtgilagmgepogbaaDoorSe
set_option linter.unusedVariables false
namespace Go.Proofs.YtgilagmgepogbaaDoor
open Go.ChangeShapes Go.WideShapes Go.ChangeAt Go.RowKit
namespace Tg
open Qm Km

/-- blank. -/
theorem rblank_any (v : Nat) (w : World) : Calls Tryd.prog 30 #[.int .u8 (v : Nat)] w fun e w' => e = .returned (.bool (bl v)) ∧ w' = w := by
  by_cases h : v = 32
  · subst h
    go_enter Tryd.func30, Tryd.ntmps30
    go_wp2
    go_ret
    exact ⟨rfl, rfl⟩
  · have h1 : ((v : Int) == 32) = false := by rw [beq_eq_false_iff_ne]; omega
    have h2 : ¬ (v : Int) = 32 := by omega
    by_cases h9 : v = 9
    · subst h9
      go_enter Tryd.func30, Tryd.ntmps30
      go_wp2
      go_ret
      exact ⟨rfl, rfl⟩
    · have h3 : ((v : Int) == 9) = false := by rw [beq_eq_false_iff_ne]; omega
      have h4 : ¬ (v : Int) = 9 := by omega
      have hb : bl v = false := by simp [bl, h, h9]
      rw [hb]
      clear hb h h9
      go_enter Tryd.func30, Tryd.ntmps30
      go_wp2
      go_ret
      exact ⟨rfl, rfl⟩

set_option maxHeartbeats 1000000 in
set_option maxRecDepth 100000 in
/-- Word. -/
theorem rword_any (s : ByteArray) (hs : s.size ≤ 9000000000000000000) (w : World) : Calls Tryd.prog 15 #[.string s] w fun e w' => e = .returned (.tuple #[.string (str (wrd (bs s))), .string (str (rst (bs s)))]) ∧ Keep (fun _ => False) w w' := by
  have HW : Hid (wrd (bs s) = (skp (bs s)).takeWhile (fun c => !we c) ∧ rst (bs s) = (skp (bs s)).dropWhile (fun c => !we c)) := ⟨rfl, rfl⟩
  have HS : Hid (s.size ≤ 9000000000000000000) := hs
  clear hs
  generalize wrd (bs s) = X at *
  generalize rst (bs s) = Y at *
  go_enter Tryd.func15, Tryd.ntmps15
  go_wp2_with fail
  go_loopw [4] (fun x wr => ∃ i : Nat, x = .int .i64 (i : Nat) ∧ wr = w ∧ i ≤ s.size ∧ skp (bs s) = skp ((bs s).drop i)) (fun x _ => s.size - (intOf x).toNat)
  case atStart => exact ⟨0, rfl, rfl, by omega, by simp⟩
  case round =>
    obtain ⟨i, rfl, rfl, hi, h1⟩ := hrel
    by_cases hlt : i < s.size
    · have hcons := bs_cons s hlt
      have j1 : (i : Int) < s.size := by omega
      have j2 : IntKind.i64.wrap ((i : Int) + 1) = (i : Int) + 1 := by have := HS.out; rw [IntKind.wrap_i64]; omega
      have hb := rblank_any ((s[i]'hlt).toNat) wr
      by_cases hbl : bl ((s[i]'hlt).toNat) = true
      · have H : Hid (skp (bs s) = skp ((bs s).drop (i + 1))) := by show _ = _; rw [h1, hcons, skp_cons_bl hbl]
        rw [hbl] at hb
        clear h1 hcons hbl
        go_wp2_with fail
        refine hb.mono ?_
        rintro e w' ⟨rfl, rfl⟩
        go_wp2_with fail
        go_roundw
        case rel => exact ⟨i + 1, by rw [Int.natCast_add]; rfl, by first | rfl | trivial, by omega, H.out⟩
        case measure => simp [intOf]; omega
      · have hbl' : bl ((s[i]'hlt).toNat) = false := by simpa using hbl
        have H : Hid (skp (bs s) = (bs s).drop i) := by show _ = _; rw [h1, hcons, skp_cons_no hbl']
        rw [hbl'] at hb
        clear h1 hcons hbl hbl' j2
        go_wp2_with fail
        refine hb.mono ?_
        rintro e w' ⟨rfl, rfl⟩
        clear hb
        go_wp2_with fail
        go_loopw [5] (fun x wr => ∃ k : Nat, x = .int .i64 (k : Nat) ∧ wr = w' ∧ i ≤ k ∧ k ≤ s.size ∧ ∀ y ∈ ((bs s).drop i).take (k - i), we y = false) (fun x _ => s.size - (intOf x).toNat)
        case atStart => exact ⟨i, rfl, rfl, by omega, by omega, by simp⟩
        case round =>
          obtain ⟨k, rfl, rfl, hk1, hk2, hk3⟩ := hrel
          by_cases hkl : k < s.size
          · have hcons := bs_cons s hkl
            have hdd : ((bs s).drop i).drop (k - i) = (bs s).drop k := by rw [List.drop_drop]; congr 1; omega
            have q1 : (k : Int) < s.size := by omega
            have q2 : IntKind.i64.wrap ((k : Int) + 1) = (k : Int) + 1 := by have := HS.out; rw [IntKind.wrap_i64]; omega
            have hb := rblank_any ((s[k]'hkl).toNat) wr
            by_cases hwe : we ((s[k]'hkl).toNat) = true
            · have HE : Hid (X = (bs s).extract i k ∧ Y = (bs s).drop k) := by
                have e1 := HW.out
                rw [H.out] at e1
                have := word_stop hk3 (Or.inr (by rw [hdd, hcons]; exact hwe))
                rw [hdd] at this
                exact ⟨by rw [e1.1, this.1, List.extract_eq_take_drop], e1.2.trans this.2⟩
              have p1 : (i : Int) ≤ k := by omega
              have p2 : (k : Int) ≤ s.size := by omega
              by_cases hbl : bl ((s[k]'hkl).toNat) = true
              · rw [hbl] at hb
                clear hk3 hcons hdd hwe hbl q2
                go_wp2_with fail
                refine hb.mono ?_
                rintro e w2 ⟨rfl, rfl⟩
                clear hb
                go_wp2_with fail
                go_quiet (fail)
                go_wp2_with fail
                go_ret2
                exact ⟨by rw [HE.out.1, HE.out.2, extract_tail, extract_cur s (by omega : i ≤ k)]; unfold cur; rw [List.extract_eq_take_drop]; rfl, (Keep.refl _ _).dn _⟩
              · have hbl' : bl ((s[k]'hkl).toNat) = false := by simpa using hbl
                have h10 : (s[k]'hkl).toNat = 10 := by simp [we_bl, hbl'] at hwe; simpa using hwe
                have h10' : ((s[k]'hkl).toNat : Int) = 10 := by omega
                rw [hbl', h10] at hb
                have hb2 : Calls Tryd.prog 30 #[.int .u8 10] wr _ := hb
                clear hk3 hcons hdd hwe hbl hbl' h10 q2 hb
                go_wp2_with fail
                refine hb2.mono ?_
                rintro e w2 ⟨rfl, rfl⟩
                clear hb2
                go_wp2_with fail
                go_quiet (fail)
                go_wp2_with fail
                go_ret2
                exact ⟨by rw [HE.out.1, HE.out.2, extract_tail, extract_cur s (by omega : i ≤ k)]; unfold cur; rw [List.extract_eq_take_drop]; rfl, (Keep.refl _ _).dn _⟩
            · have hwe' : we ((s[k]'hkl).toNat) = false := by simpa using hwe
              have hbl : bl ((s[k]'hkl).toNat) = false := by rw [we_bl] at hwe'; simp at hwe'; exact hwe'.1
              have h10 : ¬ ((s[k]'hkl).toNat : Int) = 10 := by rw [we_bl] at hwe'; simp at hwe'; have := hwe'.2; omega
              have h10' : (((s[k]'hkl).toNat : Int) == 10) = false := by rw [beq_eq_false_iff_ne]; exact h10
              have HN : Hid (∀ y ∈ ((bs s).drop i).take (k + 1 - i), we y = false) := by
                intro y hy
                rw [show k + 1 - i = (k - i) + 1 by omega, List.take_add, hdd, hcons] at hy
                rcases List.mem_append.1 hy with hy | hy
                · exact hk3 y hy
                · simp at hy; rw [hy]; exact hwe'
              rw [hbl] at hb
              clear hk3 hcons hdd hwe hwe' hbl
              go_wp2_with fail
              refine hb.mono ?_
              rintro e w2 ⟨rfl, rfl⟩
              clear hb
              go_wp2_with fail
              go_roundw
              case rel => exact ⟨k + 1, by rw [Int.natCast_add]; rfl, by first | rfl | trivial, by omega, by omega, HN.out⟩
              case measure => simp [intOf]; omega
          · obtain rfl : k = s.size := by omega
            have q1 : ¬ (s.size : Int) < s.size := by omega
            have p1 : (i : Int) ≤ s.size := by omega
            have p2 : (s.size : Int) ≤ s.size := by omega
            have HE : Hid (X = (bs s).drop i ∧ Y = []) := by
              have e1 := HW.out
              rw [H.out] at e1
              have hdd : ((bs s).drop i).drop (s.size - i) = (bs s).drop s.size := by rw [List.drop_drop]; congr 1; omega
              have := word_stop hk3 (Or.inl (by rw [hdd]; exact drop_end (by omega)))
              rw [hdd, drop_end (show ¬ s.size < s.size by omega), List.take_of_length_le (by rw [List.length_drop, bs_len]; omega)] at this
              exact ⟨e1.1.trans this.1, e1.2.trans this.2⟩
            clear hk3 hk1 hk2 hkl
            go_wp2_with fail
            go_quiet (fail)
            go_wp2_with fail
            go_ret2
            exact ⟨by rw [HE.out.1, HE.out.2, extract_tail]; rfl, (Keep.refl _ _).dn _⟩
    · obtain rfl : i = s.size := by omega
      have j1 : ¬ (s.size : Int) < s.size := by omega
      have p2 : (s.size : Int) ≤ s.size := by omega
      have HE : Hid (X = [] ∧ Y = []) := by
        have e1 := HW.out
        rw [h1, drop_end hlt] at e1
        exact e1
      clear h1 hi hlt
      go_wp2_with fail
      go_loopw [5] (fun x wr2 => x = .int .i64 (s.size : Nat) ∧ wr2 = wr) (fun _ _ => 0)
      case atStart => exact ⟨rfl, rfl⟩
      case round =>
        obtain ⟨rfl, rfl⟩ := hrel
        go_wp2_with fail
        go_quiet (fail)
        go_wp2_with fail
        go_ret2
        exact ⟨by rw [HE.out.1, HE.out.2]; rfl, (Keep.refl _ _).dn _⟩
end Tg
end Go.Proofs.YtgilagmgepogbaaDoor
