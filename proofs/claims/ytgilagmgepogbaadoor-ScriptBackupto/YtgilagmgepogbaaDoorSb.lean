/-
  The script's numbers: TrimPrefix at a sign, number, cutNumber over any memory, for texts of any bytes.
-/
import Derived.Test.YtgilagmgepogbaaDoorSa
namespace Go.Proofs.YtgilagmgepogbaaDoor
open Go.ChangeShapes Go.WideShapes Go.ChangeAt Go.RowKit
namespace Tg
open Qm Km

theorem ng_size {s : ByteArray} (h : ng (bs s) = true) : 1 ≤ s.size ∧ s.extract 0 1 = ⟨#[45]⟩ := by
  have hne : bs s ≠ [] := fun e => by rw [e] at h; cases h
  have hl : 1 ≤ s.size := by
    have := List.length_pos_iff.2 hne
    rw [bs_len] at this; omega
  refine ⟨hl, ?_⟩
  obtain ⟨c, r, e⟩ := List.exists_cons_of_ne_nil hne
  rw [extract_front, e]
  rw [e] at h
  simp [ng] at h
  subst h
  rfl
theorem ng_not {s : ByteArray} (h : ng (bs s) = false) (hl : 1 ≤ s.size) : ((s.extract 0 1).toList == [45]) = false := by
  have := beq_no (a := s.extract 0 1) (b := ⟨#[45]⟩) fun x => by
    have e : bs (s.extract 0 1) = [45] := by rw [x]; decide
    rw [bs_front] at e
    have hne : bs s ≠ [] := fun e' => by have := bs_len s; rw [e'] at this; simp at this; omega
    obtain ⟨c, r, e2⟩ := List.exists_cons_of_ne_nil hne
    rw [e2] at e h
    simp at e
    subst e
    cases h
  rwa [ByteArray.toList_eq ⟨#[45]⟩] at this

set_option maxRecDepth 100000 in
/-- internal/stringslite.HasPrefix at a sign. -/
theorem sign_any (s : ByteArray) (w : World) : Calls Tryd.prog 60 #[.string s, .string ⟨#[45]⟩] w fun e w' => e = .returned (.bool (ng (bs s))) ∧ w' = w := by
  by_cases h : ng (bs s) = true
  · obtain ⟨h1, h2⟩ := ng_size h
    have h3 : (1 : Int) ≤ s.size := by omega
    rw [h]
    clear h h1
    go_enter Tryd.func60, Tryd.ntmps60
    go_wp2
    go_ret
    exact ⟨rfl, rfl⟩
  · have h' : ng (bs s) = false := by simpa using h
    rw [h']
    by_cases hl : 1 ≤ s.size
    · have h2 := ng_not h' hl
      have h3 : (1 : Int) ≤ s.size := by omega
      clear h h' hl
      go_enter Tryd.func60, Tryd.ntmps60
      go_wp2
      go_ret
      exact ⟨rfl, rfl⟩
    · have h3 : ¬ (1 : Int) ≤ s.size := by omega
      clear h h' hl
      go_enter Tryd.func60, Tryd.ntmps60
      go_wp2
      go_ret
      exact ⟨rfl, rfl⟩
theorem dig_str (s : ByteArray) : bs (str (dig (bs s))) = dig (bs s) := bs_str fun x hx => by
  unfold dig at hx
  split at hx
  · exact bs_byte s x (List.mem_of_mem_drop hx)
  · exact bs_byte s x hx

set_option maxRecDepth 100000 in
theorem trim_in (s : ByteArray) (w : World) : Calls Tryd.prog 54 #[.string s, .string ⟨#[45]⟩] w fun e w' => e = .returned (.string (str (dig (bs s)))) ∧ w' = w := by
  have hp := sign_any s w
  by_cases h : ng (bs s) = true
  · obtain ⟨h1, _⟩ := ng_size h
    have h3 : (1 : Int) ≤ s.size := by omega
    have hd : s.extract 1 s.size = str (dig (bs s)) := by rw [extract_tail]; unfold dig; rw [if_pos h]
    rw [h] at hp
    have HD : Hid (s.extract 1 s.size = str (dig (bs s))) := hd
    clear h h1 hd
    go_enter Tryd.func54, Tryd.ntmps54
    go_wp2_with fail
    refine hp.mono ?_
    rintro e w' ⟨rfl, rfl⟩
    go_wp2_with fail
    go_ret
    exact ⟨by rw [← HD.out]; rfl, rfl⟩
  · have h' : ng (bs s) = false := by simpa using h
    rw [h'] at hp
    have hd : str (dig (bs s)) = s := by unfold dig; rw [h']; exact str_bs s
    rw [hd]
    clear h h' hd
    go_enter Tryd.func54, Tryd.ntmps54
    go_wp2_with fail
    refine hp.mono ?_
    rintro e w' ⟨rfl, rfl⟩
    go_wp2_with fail
    go_ret
    exact ⟨rfl, rfl⟩
set_option maxRecDepth 100000 in
theorem trim_any (s : ByteArray) (w : World) : Calls Tryd.prog 51 #[.string s, .string ⟨#[45]⟩] w fun e w' => e = .returned (.string (str (dig (bs s)))) ∧ w' = w := by
  have hp := trim_in s w
  generalize str (dig (bs s)) = t at *
  go_enter Tryd.func51, Tryd.ntmps51
  go_wp2_with fail
  refine hp.mono ?_
  rintro e w' ⟨rfl, rfl⟩
  go_wp2_with fail
  go_ret
  exact ⟨rfl, rfl⟩

theorem pow_le9 {p : Nat} (h : p ≤ 9) : 10 ^ p ≤ 1000000000 := by
  have : 10 ^ p ≤ 10 ^ 9 := Nat.pow_le_pow_right (by decide) h
  simpa using this
theorem num_none {w : List Nat} (h : dig w = [] ∨ 9 < (dig w).length) : num w = none := by unfold num; rw [if_pos h]
theorem num_dgs {w : List Nat} (h1 : dig w ≠ []) (h2 : (dig w).length ≤ 9) : num w = (dgs (dig w) 0).map (fun n : Nat => if ng w then -(n : Int) else (n : Int)) := by
  unfold num; rw [if_neg (by rintro (h | h); exact h1 h; omega)]
theorem dig_len (w : List Nat) : (dig w).length + (if ng w then 1 else 0) = w.length := by
  unfold dig
  split
  · rename_i h
    have : w ≠ [] := fun e => by rw [e] at h; cases h
    have := List.length_pos_iff.2 this
    rw [List.length_drop]; omega
  · simp

set_option maxHeartbeats 1000000 in
set_option maxRecDepth 100000 in
/-- number. -/
theorem number_any (s : ByteArray) (w : World) : Calls Tryd.prog 47 #[.string s] w fun e w' => e = .returned (.tuple #[.int .i64 ((num (bs s)).getD 0), .bool (num (bs s)).isSome]) ∧ Keep (fun _ => False) w w' := by
  have ht := trim_any s w
  have hb := dig_str s
  have hl := dig_len (bs s)
  rw [bs_len] at hl
  have hN := @num_none (bs s)
  have hD := @num_dgs (bs s)
  have hsz : (str (dig (bs s))).size = (dig (bs s)).length := str_size _
  generalize str (dig (bs s)) = t at *
  generalize dig (bs s) = D at *
  generalize ng (bs s) = G at *
  generalize num (bs s) = R at *
  by_cases h0 : D = []
  · obtain rfl := hN (Or.inl h0)
    have hz : t = ⟨#[]⟩ := by rw [← str_bs t, hb, h0]; rfl
    subst hz
    clear hN hD hb h0 hsz hl
    go_enter Tryd.func47, Tryd.ntmps47
    go_wp2_with fail
    refine ht.mono ?_
    rintro e w' ⟨rfl, rfl⟩
    go_wp2_with fail
    go_ret2
    exact ⟨rfl, Keep.refl _ _⟩
  have hne : (t.toList == []) = false := by
    have := beq_no (a := t) (b := ⟨#[]⟩) fun x => h0 (by rw [← hb, x]; rfl)
    rwa [ByteArray.toList_eq ⟨#[]⟩] at this
  by_cases h9 : 9 < D.length
  · obtain rfl := hN (Or.inr h9)
    have i9 : (9 : Int) < t.size := by omega
    clear hN hD hb h0 hsz hl h9
    go_enter Tryd.func47, Tryd.ntmps47
    go_wp2_with fail
    refine ht.mono ?_
    rintro e w' ⟨rfl, rfl⟩
    go_wp2_with fail
    go_ret2
    exact ⟨rfl, Keep.refl _ _⟩
  have i9 : ¬ (9 : Int) < t.size := by omega
  have HR : Hid (R = (dgs (bs t) 0).map (fun n : Nat => if G then -(n : Int) else (n : Int)) ∧ t.size ≤ 9) := ⟨by rw [hb]; exact hD h0 (by omega), by omega⟩
  have HL : Hid (t.size + (if G then 1 else 0) = s.size) := by show _ = _; rw [hsz]; exact hl
  clear hN hD hb h0 hsz hl h9
  go_enter Tryd.func47, Tryd.ntmps47
  go_wp2_with fail
  refine ht.mono ?_
  rintro e w' ⟨rfl, rfl⟩
  go_wp2_with fail
  go_loopw [5] (fun a wr => ∃ (pos v : Nat), wr = w'.iter t pos ∧ a = .int .i64 (v : Nat) ∧ dgs ((bs t).drop pos) v = dgs (bs t) 0 ∧ v < 10 ^ pos ∧ pos ≤ t.size) (fun _ wr => t.size - wr.iterPos w'.heap.size)
  case atStart => exact ⟨0, 0, rfl, rfl, by simp, by decide, by omega⟩
  case round =>
    obtain ⟨pos, v, rfl, rfl, h1, h2, h3⟩ := hrel
    by_cases hp : pos < t.size
    · have hnx : ∀ ty, (Instr.next (.pointer (some ⟨w'.heap.size, 0, none⟩)) true ty).run Tryd.prog (w'.iter t pos) = _ := fun ty => run_next_any w' t pos ty hp
      rw [decode_eq t pos hp] at hnx
      have hst := rune_step (drop_ne hp)
      have hne' := drop_ne hp
      have hpp := fixed_pos _ hne'
      generalize (fixed (rune ((bs t).drop pos))).1 = c at *
      generalize (fixed (rune ((bs t).drop pos))).2 = n at *
      by_cases hd : 48 ≤ c ∧ c ≤ 57
      · have hvb := pow_le9 (p := pos) (by have := HR.out.2; omega)
        have H : Hid (n = 1 ∧ dgs ((bs t).drop (pos + 1)) (10 * v + (c - 48)) = dgs (bs t) 0 ∧ 10 * v + (c - 48) < 10 ^ (pos + 1)) := by
          rcases hst with ⟨_, e2, e3⟩ | ⟨e1, _⟩
          · refine ⟨e2, ?_, ?_⟩
            · rw [← h1]
              conv => rhs; rw [e3]
              rw [List.drop_drop]
              simp only [dgs]
              rw [if_pos hd]
            · rw [Nat.pow_succ]; omega
          · omega
        obtain rfl := H.out.1
        have c1 : ¬ (c : Int) < 48 := by omega
        have c2 : ¬ (57 : Int) < c := by omega
        have c3 : IntKind.i64.wrap (10 * (v : Int)) = 10 * (v : Int) := by rw [IntKind.wrap_i64]; omega
        have c4 : IntKind.i32.wrap ((c : Int) - 48) = (c : Int) - 48 := by rw [IntKind.wrap_i32]; omega
        have c5 : IntKind.i64.wrap ((c : Int) - 48) = (c : Int) - 48 := by rw [IntKind.wrap_i64]; omega
        have c6 : IntKind.i64.wrap (10 * (v : Int) + ((c : Int) - 48)) = ((10 * v + (c - 48) : Nat) : Int) := by rw [IntKind.wrap_i64]; omega
        clear hst hne' hpp h1 h2 hd hvb
        go_wp2_with fail
        go_roundw
        case rel => exact ⟨pos + 1, 10 * v + (c - 48), rfl, rfl, H.out.2.1, H.out.2.2, by omega⟩
        case measure => simp; omega
      · have H : Hid (R = none) := by
          show R = none
          rw [HR.out.1, ← h1]
          obtain ⟨x, r, e⟩ := List.exists_cons_of_ne_nil hne'
          have hx : ¬ (48 ≤ x ∧ x ≤ 57) := by
            rcases hst with ⟨_, _, e3⟩ | ⟨_, e2⟩
            · rw [e] at e3; injection e3 with e3 _; rw [e3]; exact hd
            · have := e2 x (by rw [e, show n = n - 1 + 1 by have := hpp.1; omega]; simp)
              omega
          rw [e]
          simp only [dgs]
          rw [if_neg hx]
          rfl
        clear hst hne' hpp h1 h2
        by_cases c1 : (c : Int) < 48
        · clear hd
          go_wp2_with fail
          go_ret2
          exact ⟨by rw [H.out]; rfl, (Keep.refl _ _).alloc _⟩
        · have c2 : (57 : Int) < c := by omega
          clear hd
          go_wp2_with fail
          go_ret2
          exact ⟨by rw [H.out]; rfl, (Keep.refl _ _).alloc _⟩
    · have hnx : ∀ ty, (Instr.next (.pointer (some ⟨w'.heap.size, 0, none⟩)) true ty).run Tryd.prog (w'.iter t pos) = _ := fun ty => run_next_end w' t pos ty hp
      have hvb := pow_le9 (p := pos) (by have := HR.out.2; omega)
      rw [drop_end hp] at h1
      have H : Hid (R = some (if G then -(v : Int) else (v : Int))) := by show _ = _; rw [HR.out.1, ← h1]; rfl
      have hlb := HL.out
      clear h1
      cases G
      · have e1 : ¬ (t.size : Int) < s.size := by simp at hlb; omega
        clear hlb HL
        go_wp2_with fail
        go_ret2
        exact ⟨by rw [H.out]; rfl, (Keep.refl _ _).alloc _⟩
      · have e1 : (t.size : Int) < s.size := by simp at hlb; omega
        have e2 : IntKind.i64.wrap (-(v : Int)) = -(v : Int) := by rw [IntKind.wrap_i64]; omega
        clear hlb HL
        go_wp2_with fail
        go_ret2
        exact ⟨by rw [H.out]; rfl, (Keep.refl _ _).alloc _⟩

set_option maxRecDepth 100000 in
/-- cutNumber. -/
theorem cutnum_any (s : ByteArray) (w : World) : Calls Tryd.prog 41 #[.string s] w fun e w' => e = .returned (.tuple #[.int .i64 ((num (wrd (bs s))).getD 0), .string (str (rst (bs s))), .bool (num (wrd (bs s))).isSome]) ∧ Keep (fun _ => False) w w' := by
  have hc := cut_any s w
  have hn := fun W => number_any (str (wrd (bs s))) W
  rw [show bs (str (wrd (bs s))) = wrd (bs s) from bs_str fun x hx => bs_byte s x (wrd_mem hx)] at hn
  generalize (num (wrd (bs s))).getD 0 = A at *
  generalize (num (wrd (bs s))).isSome = B at *
  generalize str (wrd (bs s)) = X at *
  generalize str (rst (bs s)) = Y at *
  go_enter Tryd.func41, Tryd.ntmps41
  go_wp2_with fail
  refine hc.mono ?_
  rintro e w1 ⟨rfl, k1⟩
  go_wp2_with fail
  refine (hn _).mono ?_
  rintro e w2 ⟨rfl, k2⟩
  go_wp2_with fail
  go_ret3
  exact ⟨rfl, k1.trans k2⟩
end Tg
end Go.Proofs.YtgilagmgepogbaaDoor
