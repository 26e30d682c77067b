/-
  The script's words: isBlank, skipBlanks, cutWord, ends, Word over any memory, for texts of any bytes.
-/
import Derived.Test.YtgilagmgepogbaaDoorSmall
import Derived.Test.YtgilagmgepogbaaDoorKm
import Derived.BigQuiet
namespace Go.Proofs.YtgilagmgepogbaaDoor
open Go.ChangeShapes Go.WideShapes Go.ChangeAt Go.RowKit
namespace Tg
open Qm Km

/-- A rune that is no letter of one byte has no such byte. -/
theorem high_bytes {l : List Nat} (hne : l ≠ []) (h : ¬ (fixed (rune l)).1 < 128) : ∀ x ∈ l.take (fixed (rune l)).2, 128 ≤ x := by
  rcases rune_cases l with ⟨h0, _⟩ | ⟨c, r, rfl, hc, hr⟩ | ⟨c, d, r, rfl, ⟨h1, h2, h3⟩, hr⟩ | ⟨c, d, e, r, rfl, ⟨h1, h2, h3, h4, h5⟩, hr⟩ | ⟨c, d, e, f, r, rfl, ⟨h1, h2, h3, h4, h5, h6⟩, hr⟩
  · obtain ⟨c, r, rfl⟩ := List.exists_cons_of_ne_nil hne
    have hf : (fixed (rune (c :: r))).2 = 1 := by unfold fixed; rw [if_pos h0]
    rw [hf]
    intro x hx
    simp at hx
    subst hx
    by_cases hc : x < 128
    · rw [rune1 hc] at h0; cases h0
    · omega
  · rw [hr] at h; exact absurd hc h
  all_goals
    have hf : ∀ v n : Nat, n ≠ 0 → fixed (v, n) = (v, n) := fun v n hn => by unfold fixed; rw [if_neg hn]
    rw [hr, hf _ _ (by decide)]
    intro x hx
    simp [isC] at *
    omega
theorem fixed_pos (l : List Nat) (hne : l ≠ []) : 1 ≤ (fixed (rune l)).2 ∧ (fixed (rune l)).2 ≤ l.length := by
  rw [fixed_piece]; exact piece_pos hne
/-- What range finds: a byte below 128, or bytes that are none. -/
theorem rune_step {l : List Nat} (hne : l ≠ []) : ((fixed (rune l)).1 < 128 ∧ (fixed (rune l)).2 = 1 ∧ l = (fixed (rune l)).1 :: l.drop 1) ∨ (128 ≤ (fixed (rune l)).1 ∧ ∀ x ∈ l.take (fixed (rune l)).2, 128 ≤ x) := by
  by_cases h : (fixed (rune l)).1 < 128
  · left
    rcases rune_cases l with ⟨h0, _⟩ | ⟨c, r, rfl, hc, hr⟩ | ⟨c, d, r, rfl, ⟨h1, h2, h3⟩, hr⟩ | ⟨c, d, e, r, rfl, ⟨h1, h2, h3, h4, h5⟩, hr⟩ | ⟨c, d, e, f, r, rfl, ⟨h1, h2, h3, h4, h5, h6⟩, hr⟩
    · have : (fixed (rune l)).1 = 65533 := by unfold fixed; rw [if_pos h0]
      omega
    · rw [hr]
      exact ⟨hc, rfl, rfl⟩
    all_goals
      have hf : ∀ v n : Nat, n ≠ 0 → fixed (v, n) = (v, n) := fun v n hn => by unfold fixed; rw [if_neg hn]
      rw [hr, hf _ _ (by decide)] at h
      simp only [isC, ok3, ok4] at *
      omega
  · exact Or.inr ⟨by omega, high_bytes hne h⟩
theorem drop_ne {s : ByteArray} {pos : Nat} (h : pos < s.size) : (bs s).drop pos ≠ [] := fun e => by
  have h1 := congrArg List.length e
  rw [List.length_drop, bs_len, List.length_nil] at h1
  omega
theorem drop_end {s : ByteArray} {pos : Nat} (h : ¬ pos < s.size) : (bs s).drop pos = [] := by rw [List.drop_eq_nil_iff, bs_len]; omega
theorem extract_tail (s : ByteArray) (n : Nat) : s.extract n s.size = str ((bs s).drop n) := by rw [← bs_drop, str_bs]
theorem bs_front (t : ByteArray) (n : Nat) : bs (t.extract 0 n) = (bs t).take n := by
  unfold bs
  rw [ByteArray.data_extract, Array.toList_extract, List.extract_eq_take_drop, List.map_take, List.drop_zero, Nat.sub_zero]
theorem extract_front (s : ByteArray) (n : Nat) : s.extract 0 n = str ((bs s).take n) := by rw [← bs_front, str_bs]

theorem Keep.dn {S : Nat → Prop} {a w : World} (h : Keep S a w) (n : Nat) : Keep S a (w.drewN n) := ⟨h.os, h.tape, h.output, h.size, h.block⟩

/-- isBlank. -/
theorem blank_any (v : Nat) (w : World) : Calls Tryd.prog 31 #[.int .i32 (v : Nat)] w fun e w' => e = .returned (.bool (bl v)) ∧ w' = w := by
  by_cases h : v = 32
  · subst h
    go_enter Tryd.func31, Tryd.ntmps31
    go_wp2
    go_ret
    exact ⟨rfl, rfl⟩
  · have h1 : ((v : Int) == 32) = false := by rw [beq_eq_false_iff_ne]; omega
    have h2 : ¬ (v : Int) = 32 := by omega
    by_cases h9 : v = 9
    · subst h9
      go_enter Tryd.func31, Tryd.ntmps31
      go_wp2
      go_ret
      exact ⟨rfl, rfl⟩
    · have h3 : ((v : Int) == 9) = false := by rw [beq_eq_false_iff_ne]; omega
      have h4 : ¬ (v : Int) = 9 := by omega
      have hb : bl v = false := by simp [bl, h, h9]
      rw [hb]
      clear hb h h9
      go_enter Tryd.func31, Tryd.ntmps31
      go_wp2
      go_ret
      exact ⟨rfl, rfl⟩

set_option maxHeartbeats 1000000 in
/-- skipBlanks. -/
theorem skip_any (s : ByteArray) (w : World) : Calls Tryd.prog 19 #[.string s] w fun e w' => e = .returned (.string (str (skp (bs s)))) ∧ Keep (fun _ => False) w w' := by
  go_enter Tryd.func19, Tryd.ntmps19
  go_wp2
  go_loopw [] (fun wr => ∃ pos : Nat, wr = w.iter s pos ∧ skp (bs s) = skp ((bs s).drop pos)) (fun wr => s.size - wr.iterPos w.heap.size)
  case atStart => exact ⟨0, rfl, by simp⟩
  case round =>
    obtain ⟨pos, rfl, h1⟩ := hrel
    by_cases hp : pos < s.size
    · have hnx : ∀ ty, (Instr.next (.pointer (some ⟨w.heap.size, 0, none⟩)) true ty).run Tryd.prog (w.iter s pos) = _ := fun ty => run_next_any w s pos ty hp
      rw [decode_eq s pos hp] at hnx
      have hpp := fixed_pos _ (drop_ne hp)
      have hst := rune_step (drop_ne hp)
      have hp' : (pos : Int) ≤ s.size := by omega
      generalize hv : (fixed (rune ((bs s).drop pos))).1 = v at *
      generalize hn : (fixed (rune ((bs s).drop pos))).2 = n at *
      have hb := blank_any v (w.iter s (pos + n))
      by_cases hbl : bl v = true
      · have hlt : v < 128 := by simp [bl] at hbl; omega
        have H : Hid (skp (bs s) = skp ((bs s).drop (pos + n)) ∧ 1 ≤ n) := by
          refine ⟨?_, hpp.1⟩
          rcases hst with ⟨_, e2, e3⟩ | ⟨e1, _⟩
          · rw [h1, e3, skp_cons_bl hbl, List.drop_drop, e2]
          · omega
        rw [hbl] at hb
        clear h1 hv hn hst hpp hbl hlt
        go_wp2_with fail
        refine hb.mono ?_
        rintro e w' ⟨rfl, rfl⟩
        go_wp2_with fail
        go_roundw
        case rel => exact ⟨pos + n, rfl, H.out.1⟩
        case measure => have := H.out.2; simp; omega
      · have hbl' : bl v = false := by simpa using hbl
        have H : Hid (skp (bs s) = (bs s).drop pos) := by
          show _ = _
          rw [h1]
          obtain ⟨c, r, e⟩ := List.exists_cons_of_ne_nil (drop_ne hp)
          rcases hst with ⟨_, e2, e3⟩ | ⟨_, e2⟩
          · rw [e3]; exact skp_cons_no hbl'
          · rw [e] at e2 ⊢
            have := e2 c (by rw [show n = n - 1 + 1 by have := hpp.1; omega]; simp)
            exact skp_cons_no (by simp [bl]; omega)
        rw [hbl'] at hb
        clear h1 hv hn hst hpp hbl hbl'
        go_wp2_with fail
        refine hb.mono ?_
        rintro e w' ⟨rfl, rfl⟩
        go_wp2_with fail
        go_ret
        exact ⟨by rw [H.out, extract_tail]; rfl, (Keep.refl _ _).alloc _⟩
    · have hnx : ∀ ty, (Instr.next (.pointer (some ⟨w.heap.size, 0, none⟩)) true ty).run Tryd.prog (w.iter s pos) = _ := fun ty => run_next_end w s pos ty hp
      have H : Hid (skp (bs s) = []) := by show _ = _; rw [h1, drop_end hp]; rfl
      clear h1
      go_wp2_with fail
      go_ret
      exact ⟨by rw [H.out]; rfl, (Keep.refl _ _).alloc _⟩

theorem skp_str (s : ByteArray) : bs (str (skp (bs s))) = skp (bs s) := bs_str fun x hx => bs_byte s x (skp_mem hx)
/-- What a word's first part is, as range finds it. -/
theorem word_on {l : List Nat} {pos n v : Nat} (hall : ∀ x ∈ l.take pos, we x = false) (hst : (v < 128 ∧ n = 1 ∧ l.drop pos = v :: (l.drop pos).drop 1) ∨ (128 ≤ v ∧ ∀ x ∈ (l.drop pos).take n, 128 ≤ x)) (hw : we v = false) : ∀ x ∈ l.take (pos + n), we x = false := by
  intro x hx
  rw [List.take_add] at hx
  rcases List.mem_append.1 hx with hx | hx
  · exact hall x hx
  · rcases hst with ⟨_, rfl, e⟩ | ⟨_, e⟩
    · rw [e] at hx; simp at hx; rw [hx]; exact hw
    · have := e x hx
      simp [we]; omega
theorem word_stop {l : List Nat} {pos : Nat} (hall : ∀ x ∈ l.take pos, we x = false) (hs : l.drop pos = [] ∨ we ((l.drop pos).headD 0) = true) : l.takeWhile (fun c => !we c) = l.take pos ∧ l.dropWhile (fun c => !we c) = l.drop pos := by
  have := take_all (p := fun c => !we c) (w := l.take pos) (r := l.drop pos) (fun x hx => by simp [hall x hx]) (by rcases hs with h | h; exact Or.inl h; exact Or.inr (by show (!we ((l.drop pos).headD 0)) = false; rw [h]; rfl))
  rw [List.take_append_drop] at this
  exact this
theorem we_bl (v : Nat) : we v = (bl v || v == 10) := rfl

set_option maxHeartbeats 1000000 in
/-- cutWord. -/
theorem cut_any (s : ByteArray) (w : World) : Calls Tryd.prog 28 #[.string s] w fun e w' => e = .returned (.tuple #[.string (str (wrd (bs s))), .string (str (rst (bs s)))]) ∧ Keep (fun _ => False) w w' := by
  have hsk := skip_any s w
  have H0 : Hid (bs (str (skp (bs s))) = skp (bs s)) := skp_str s
  have H1 : Hid (wrd (bs s) = (skp (bs s)).takeWhile (fun c => !we c) ∧ rst (bs s) = (skp (bs s)).dropWhile (fun c => !we c)) := ⟨rfl, rfl⟩
  generalize wrd (bs s) = X at *
  generalize rst (bs s) = Y at *
  generalize str (skp (bs s)) = t at *
  go_enter Tryd.func28, Tryd.ntmps28
  go_wp2_with fail
  refine hsk.mono ?_
  rintro e w1 ⟨rfl, k1⟩
  clear hsk
  go_wp2_with fail
  have K1 : Hid (Keep (fun _ => False) w w1) := k1
  clear k1
  go_loopw [] (fun wr => ∃ pos : Nat, wr = w1.iter t pos ∧ ∀ x ∈ (bs t).take pos, we x = false) (fun wr => t.size - wr.iterPos w1.heap.size)
  case atStart => exact ⟨0, rfl, by simp⟩
  case round =>
    obtain ⟨pos, rfl, h1⟩ := hrel
    by_cases hp : pos < t.size
    · have hnx : ∀ ty, (Instr.next (.pointer (some ⟨w1.heap.size, 0, none⟩)) true ty).run Tryd.prog (w1.iter t pos) = _ := fun ty => run_next_any w1 t pos ty hp
      rw [decode_eq t pos hp] at hnx
      have hpp := fixed_pos _ (drop_ne hp)
      have hst := rune_step (drop_ne hp)
      have hp' : (pos : Int) ≤ t.size := by omega
      have hne := drop_ne hp
      generalize hv : (fixed (rune ((bs t).drop pos))).1 = v at *
      generalize hn : (fixed (rune ((bs t).drop pos))).2 = n at *
      have hb := blank_any v (w1.iter t (pos + n))
      by_cases hwe : we v = true
      · have hlt : v < 128 := by simp [we] at hwe; omega
        have H : Hid (X = (bs t).take pos ∧ Y = (bs t).drop pos) := by
          have e1 := H1.out
          rw [← H0.out] at e1
          have := word_stop h1 (Or.inr (by rcases hst with ⟨_, _, e3⟩ | ⟨e3, _⟩; rw [e3]; exact hwe; omega))
          exact ⟨e1.1.trans this.1, e1.2.trans this.2⟩
        by_cases hbl : bl v = true
        · rw [hbl] at hb
          clear h1 hv hn hst hpp hbl hlt hwe hne
          go_wp2_with fail
          refine hb.mono ?_
          rintro e w' ⟨rfl, rfl⟩
          go_wp2_with fail
          go_quiet (fail)
          go_wp2_with fail
          go_ret2
          exact ⟨by rw [H.out.1, H.out.2, extract_tail, extract_front]; rfl, (K1.out.alloc _).dn _⟩
        · have hbl' : bl v = false := by simpa using hbl
          obtain rfl : v = 10 := by simp [we_bl, hbl'] at hwe; exact hwe
          rw [hbl'] at hb
          clear h1 hv hn hst hpp hbl hlt hwe hne
          go_wp2_with fail
          refine hb.mono ?_
          rintro e w' ⟨rfl, rfl⟩
          go_wp2_with fail
          go_quiet (fail)
          go_wp2_with fail
          go_ret2
          exact ⟨by rw [H.out.1, H.out.2, extract_tail, extract_front]; rfl, (K1.out.alloc _).dn _⟩
      · have hwe' : we v = false := by simpa using hwe
        have hbl : bl v = false := by rw [we_bl] at hwe'; simp at hwe'; exact hwe'.1
        have h10 : ¬ v = 10 := by rw [we_bl] at hwe'; simp at hwe'; exact hwe'.2
        have h10' : ((v : Int) == 10) = false := by rw [beq_eq_false_iff_ne]; omega
        have h10'' : ¬ (v : Int) = 10 := by omega
        have H : Hid ((∀ x ∈ (bs t).take (pos + n), we x = false) ∧ 1 ≤ n) := ⟨word_on h1 hst hwe', hpp.1⟩
        rw [hbl] at hb
        clear h1 hv hn hst hpp hbl hwe hwe' hne h10
        go_wp2_with fail
        refine hb.mono ?_
        rintro e w' ⟨rfl, rfl⟩
        go_wp2_with fail
        go_roundw
        case rel => exact ⟨pos + n, rfl, H.out.1⟩
        case measure => have := H.out.2; simp; omega
    · have hnx : ∀ ty, (Instr.next (.pointer (some ⟨w1.heap.size, 0, none⟩)) true ty).run Tryd.prog (w1.iter t pos) = _ := fun ty => run_next_end w1 t pos ty hp
      have H : Hid (X = bs t ∧ Y = []) := by
        have e1 := H1.out
        rw [← H0.out] at e1
        have := word_stop h1 (Or.inl (drop_end hp))
        rw [drop_end hp, List.take_of_length_le (by rw [bs_len]; omega)] at this
        exact ⟨e1.1.trans this.1, e1.2.trans this.2⟩
      clear h1
      go_wp2_with fail
      go_ret2
      exact ⟨by rw [H.out.1, H.out.2, str_bs]; rfl, K1.out.alloc _⟩

/-- ends. -/
theorem ends_any (s : ByteArray) (w : World) : Calls Tryd.prog 34 #[.string s] w fun e w' => e = .returned (.bool (ends (bs s))) ∧ Keep (fun _ => False) w w' := by
  have hsk := skip_any s w
  by_cases h : skp (bs s) = []
  · have he : ends (bs s) = true := by simp [ends, h]
    have hz : str (skp (bs s)) = ⟨#[]⟩ := by rw [h]; rfl
    rw [he]; rw [hz] at hsk
    clear h he hz
    go_enter Tryd.func34, Tryd.ntmps34
    go_wp2_with fail
    refine hsk.mono ?_
    rintro e w1 ⟨rfl, k1⟩
    go_wp2_with fail
    go_ret
    exact ⟨rfl, k1⟩
  · have he : ends (bs s) = false := by simp [ends, h]
    have hz : ((str (skp (bs s))).toList == []) = false := by
      have := beq_no (a := str (skp (bs s))) (b := ⟨#[]⟩) fun x => h (by rw [← skp_str, x]; rfl)
      rwa [ByteArray.toList_eq ⟨#[]⟩] at this
    rw [he]
    generalize str (skp (bs s)) = t at *
    clear h he
    go_enter Tryd.func34, Tryd.ntmps34
    go_wp2_with fail
    refine hsk.mono ?_
    rintro e w1 ⟨rfl, k1⟩
    go_wp2_with fail
    go_ret
    exact ⟨rfl, k1⟩

/-- Word. -/
theorem word_any (s : ByteArray) (hs : s.size ≤ 140737488355328) (w : World) : Calls Tryd.prog 14 #[.string s] w fun e w' => e = .returned (.tuple #[.string (str (wrd (bs s))), .string (str (rst (bs s)))]) ∧ Keep (fun _ => False) w w' := by
  have hc := cut_any s w
  have l1 := wrd_len (bs s); have l2 := rst_len (bs s)
  rw [bs_len] at l1 l2
  have hx : ∀ W, Calls Tryd.prog 29 #[.string (str (wrd (bs s)))] W fun e w' => e = .returned (.string (str (wrd (bs s)))) ∧ Keep (fun _ => False) W w' := fun W => clone_any _ W (by rw [str_size]; omega)
  have hy : ∀ W, Calls Tryd.prog 29 #[.string (str (rst (bs s)))] W fun e w' => e = .returned (.string (str (rst (bs s)))) ∧ Keep (fun _ => False) W w' := fun W => clone_any _ W (by rw [str_size]; omega)
  generalize str (wrd (bs s)) = X at *
  generalize str (rst (bs s)) = Y at *
  clear l1 l2 hs
  go_enter Tryd.func14, Tryd.ntmps14
  go_wp2_with fail
  refine hc.mono ?_
  rintro e w1 ⟨rfl, k1⟩
  clear hc
  go_wp2_with fail
  refine (hx _).mono ?_
  rintro e w2 ⟨rfl, k2⟩
  go_wp2_with fail
  refine (hy _).mono ?_
  rintro e w3 ⟨rfl, k3⟩
  go_wp2_with fail
  go_ret2
  exact ⟨rfl, (k1.trans k2).trans k3⟩
end Tg
end Go.Proofs.YtgilagmgepogbaaDoor
