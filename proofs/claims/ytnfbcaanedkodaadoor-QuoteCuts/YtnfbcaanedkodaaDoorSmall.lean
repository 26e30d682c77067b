/-
  isRune, Runes, lastStart, Clone and Cut over any memory, for strings of any bytes.
-/
import Derived.Test.YtnfbcaanedkodaaDoorOwn
import Derived.Shelf.Strconv.Clone
namespace Go.Proofs.YtnfbcaanedkodaaDoor
open Go.ChangeShapes Go.WideShapes Go.ChangeAt Go.RowKit
namespace Tg
open Qm

/-- Three bytes at the beginning. -/
theorem extract_three (t : ByteArray) : (t.extract 0 3 = ⟨#[239, 191, 189]⟩) ↔ (bs t).take 3 = [239, 191, 189] := by
  have e : bs (t.extract 0 3) = (bs t).take 3 := by
    unfold bs
    rw [ByteArray.data_extract, Array.toList_extract, List.extract_eq_take_drop, List.map_take, List.drop_zero]
  rw [← e]
  constructor
  · intro h; rw [h]; decide
  · intro h; rw [← str_bs (t.extract 0 3), h]; decide

theorem beq_no {a b : ByteArray} (h : a ≠ b) : (a.toList == b.toList) = false := by
  rw [ByteArray.toList_eq, ByteArray.toList_eq, beq_eq_false_iff_ne]
  exact fun e => h (Go.WideShapes.bytes_inj e)

theorem hp_any (t : ByteArray) (w : World) (ht : t.size ≤ 9223372036854775807) : Calls Tryd.prog 29 #[.string t, .string ⟨#[239, 191, 189]⟩] w fun e w' => e = .returned (.bool (decide ((bs t).take 3 = [239, 191, 189]))) ∧ w' = w := by
  by_cases h : 3 ≤ t.size
  · have h3 : (3 : Int) ≤ t.size := by omega
    by_cases hb : (bs t).take 3 = [239, 191, 189]
    · have he := (extract_three t).2 hb
      rw [decide_eq_true hb]
      clear hb
      go_enter Tryd.func29, Tryd.ntmps29
      go_wp2
      go_ret
      exact ⟨rfl, rfl⟩
    · have he : ((t.extract 0 3).toList == [239, 191, 189]) = false := by
        have := beq_no (b := ⟨#[239, 191, 189]⟩) fun x => hb ((extract_three t).1 x)
        rw [ByteArray.toList_eq ⟨#[239, 191, 189]⟩] at this
        exact this
      rw [decide_eq_false hb]
      clear hb
      go_enter Tryd.func29, Tryd.ntmps29
      go_wp2
      go_ret
      exact ⟨rfl, rfl⟩
  · have h3 : ¬ (3 : Int) ≤ t.size := by omega
    have hb : ¬ (bs t).take 3 = [239, 191, 189] := fun e => by
      have := congrArg List.length e
      rw [List.length_take, bs_len] at this
      simp at this
      omega
    rw [decide_eq_false hb]
    clear hb
    go_enter Tryd.func29, Tryd.ntmps29
    go_wp2
    go_ret
    exact ⟨rfl, rfl⟩

/-- What range finds there is a rune. -/
theorem isrune_any (s : ByteArray) (i : Nat) (w : World) (hs : s.size ≤ 9223372036854775807) (hi : i < s.size) :
    Calls Tryd.prog 19 #[.string s, .int .i64 i, .int .i32 ((fixed (rune ((bs s).drop i))).1 : Nat)] w fun e w' => e = .returned (.bool (decide ((rune ((bs s).drop i)).2 ≠ 0))) ∧ w' = w := by
  have hp := hp_any (s.extract i s.size) w (by simp; omega)
  rw [bs_drop] at hp
  have hi' : (i : Int) ≤ s.size := by omega
  by_cases h0 : (rune ((bs s).drop i)).2 = 0
  · have hn : ¬ ((bs s).drop i).take 3 = [239, 191, 189] := fun e => by
      have h1 := rune_none_take (k := 3) h0
      rw [e] at h1
      exact absurd h1 (by decide)
    have hf : (fixed (rune ((bs s).drop i))).1 = 65533 := by unfold fixed; rw [if_pos h0]
    rw [hf, decide_eq_false (by simpa using h0)]
    rw [decide_eq_false hn] at hp
    clear hf hn h0
    go_enter Tryd.func19, Tryd.ntmps19
    go_wp2_with fail
    refine hp.mono ?_
    rintro e w' ⟨rfl, rfl⟩
    go_wp2_with fail
    go_ret
    exact ⟨rfl, rfl⟩
  · have hf : (fixed (rune ((bs s).drop i))).1 = (rune ((bs s).drop i)).1 := by unfold fixed; rw [if_neg h0]
    rw [hf, decide_eq_true h0]
    by_cases h1 : (rune ((bs s).drop i)).1 = 65533
    · have hn : ((bs s).drop i).take 3 = [239, 191, 189] := by
        obtain ⟨_, r, hr, _⟩ := enc_rune h0
        rw [h1] at hr
        rw [hr]
        rfl
      rw [decide_eq_true hn] at hp
      rw [h1]
      clear hf hn h0 h1
      go_enter Tryd.func19, Tryd.ntmps19
      go_wp2_with fail
      refine hp.mono ?_
      rintro e w' ⟨rfl, rfl⟩
      go_wp2_with fail
      go_ret
      exact ⟨rfl, rfl⟩
    · have hv := (enc_rune h0).1
      generalize (rune ((bs s).drop i)).1 = v at *
      unfold valid at hv
      have h2 : ((v : Int) == 65533) = false := by rw [beq_eq_false_iff_ne]; omega
      have h3 : ¬ (v : Int) = 65533 := by omega
      clear hf h0 h1 hp
      go_enter Tryd.func19, Tryd.ntmps19
      go_wp2_with fail
      go_ret
      exact ⟨rfl, rfl⟩

/-- Runes. -/
theorem pruns_any (s : ByteArray) (hs : s.size ≤ 9223372036854775807) (w : World) : Calls Tryd.prog 16 #[.string s] w fun e w' => e = .returned (.tuple #[.int .i64 (runes (bs s)).1, .int .i64 (runes (bs s)).2]) ∧ Keep (fun _ => False) w w' := by
  have hrl : ∀ l : List Nat, (runes l).1 + (runes l).2 ≤ l.length := fun l => by
    refine list_ind (P := fun l => (runes l).1 + (runes l).2 ≤ l.length) (by rw [runes_nil]; simp) (fun l hne ih => ?_) l
    have hp := piece_pos hne
    rw [runes, dif_neg hne]
    rw [List.length_drop] at ih
    split <;> simp <;> omega
  have HR0 := hrl (bs s)
  rw [bs_len] at HR0
  have HR : Hid ((runes (bs s)).1 + (runes (bs s)).2 ≤ s.size) := HR0
  clear hrl HR0
  go_enter Tryd.func16, Tryd.ntmps16
  go_wp2
  go_loopw [2, 3] (fun a b wr => ∃ (pos p q : Nat), wr = w.iter s pos ∧ a = .int .i64 p ∧ b = .int .i64 q ∧ p + (runes ((bs s).drop pos)).1 = (runes (bs s)).1 ∧ q + (runes ((bs s).drop pos)).2 = (runes (bs s)).2) (fun _ _ wr => s.size - wr.iterPos w.heap.size)
  case atStart => exact ⟨0, 0, 0, rfl, rfl, rfl, by simp, by simp⟩
  case round =>
    obtain ⟨pos, p, q, rfl, rfl, rfl, h1, h2⟩ := hrel
    by_cases hp : pos < s.size
    · have hnx : ∀ ty, (Instr.next (.pointer (some ⟨w.heap.size, 0, none⟩)) true ty).run Tryd.prog (w.iter s pos) = _ := fun ty => run_next_any w s pos ty hp
      rw [decode_eq s pos hp] at hnx
      have hne : (bs s).drop pos ≠ [] := fun e => by
        have h1 := congrArg List.length e
        rw [List.length_drop, bs_len, List.length_nil] at h1
        omega
      have hpp := piece_pos hne
      rw [← fixed_piece] at hpp
      have hir := isrune_any s pos (w.iter s (pos + (fixed (rune ((bs s).drop pos))).2)) hs hp
      by_cases hz : (rune ((bs s).drop pos)).2 = 0
      · have e1 := runes_bad hne hz
        rw [e1] at h1 h2
        rw [decide_eq_false (by simpa using hz)] at hir
        have hf : (fixed (rune ((bs s).drop pos))).2 = 1 := by unfold fixed; rw [if_pos hz]
        rw [hf] at hir hnx
        rw [List.drop_drop] at h1 h2
        have HE : Hid (p + (runes ((bs s).drop (pos + 1))).1 = (runes (bs s)).1 ∧ q + ((runes ((bs s).drop (pos + 1))).2 + 1) = (runes (bs s)).2) := ⟨h1, h2⟩
        have hq : IntKind.i64.wrap ((q : Int) + 1) = (q : Int) + 1 := by have := HR.out; have := HE.out; rw [IntKind.wrap_i64]; omega
        clear e1 h1 h2 hz hne hf hpp
        generalize (fixed (rune ((bs s).drop pos))).1 = v at *
        go_wp2_with fail
        refine hir.mono ?_
        rintro e w' ⟨rfl, rfl⟩
        go_wp2_with fail
        go_roundw
        case rel => exact ⟨pos + 1, p, q + 1, rfl, rfl, by go_num, HE.out.1, by have := HE.out.2; omega⟩
        case measure => simp; omega
      · have e1 := runes_good hz
        rw [e1] at h1 h2
        rw [decide_eq_true hz] at hir
        have hf : (fixed (rune ((bs s).drop pos))).2 = (rune ((bs s).drop pos)).2 := by unfold fixed; rw [if_neg hz]
        rw [hf] at hir hnx hpp
        rw [List.drop_drop] at h1 h2
        generalize (rune ((bs s).drop pos)).2 = n at *
        have HE : Hid (p + ((runes ((bs s).drop (pos + n))).1 + 1) = (runes (bs s)).1 ∧ q + (runes ((bs s).drop (pos + n))).2 = (runes (bs s)).2) := ⟨h1, h2⟩
        have hq : IntKind.i64.wrap ((p : Int) + 1) = (p : Int) + 1 := by have := HR.out; have := HE.out; rw [IntKind.wrap_i64]; omega
        have HN : Hid (1 ≤ n) := hpp.1
        clear e1 h1 h2 hz hne hf hpp
        generalize (fixed (rune ((bs s).drop pos))).1 = v at *
        go_wp2_with fail
        refine hir.mono ?_
        rintro e w' ⟨rfl, rfl⟩
        go_wp2_with fail
        go_roundw
        case rel => exact ⟨pos + n, p + 1, q, rfl, by go_num, rfl, by have := HE.out.1; omega, HE.out.2⟩
        case measure => have := HN.out; simp; omega
    · have hnx : ∀ ty, (Instr.next (.pointer (some ⟨w.heap.size, 0, none⟩)) true ty).run Tryd.prog (w.iter s pos) = _ := fun ty => run_next_end w s pos ty hp
      have hb : (bs s).drop pos = [] := by rw [List.drop_eq_nil_iff, bs_len]; omega
      rw [hb, runes_nil] at h1 h2
      have HE : Hid (p = (runes (bs s)).1 ∧ q = (runes (bs s)).2) := ⟨h1, h2⟩
      clear h1 h2 hb
      go_wp2_with fail
      go_ret2
      exact ⟨by rw [← HE.out.1, ← HE.out.2]; rfl, (Keep.refl _ _).alloc _⟩

/-- lastStart, ahead of the end. -/
theorem laststart_any (s : ByteArray) (n : Int) (hn : n < s.size) (w : World) : Calls Tryd.prog 22 #[.string s, .int .i64 n] w fun e w' => e = .returned (.int .i64 (cutI (bs s) n : Nat)) ∧ Keep (fun _ => False) w w' := by
  have HN : Hid (n < s.size) := hn
  clear hn
  go_enter Tryd.func22, Tryd.ntmps22
  go_wp2
  go_loopw [5] (fun a wr => ∃ (pos k : Nat), wr = w.iter s pos ∧ a = .int .i64 k ∧ ((pos = 0 ∧ k = 0) ∨ ((bs s).drop k ≠ [] ∧ (k : Int) ≤ n ∧ pos = k + (piece ((bs s).drop k)).2)) ∧ k + cutI ((bs s).drop k) (n - k) = cutI (bs s) n) (fun _ wr => s.size - wr.iterPos w.heap.size)
  case atStart => exact ⟨0, 0, rfl, rfl, Or.inl ⟨rfl, rfl⟩, by simp⟩
  case round =>
    obtain ⟨pos, k, rfl, rfl, hk, hc⟩ := hrel
    have HS : Hid (n < pos → cutI (bs s) n = k) := fun h => by
      rcases hk with ⟨rfl, rfl⟩ | ⟨h1, h2, h3⟩
      · rw [List.drop_zero] at hc
        unfold cutI
        rw [if_pos (by omega)]
      · rw [cutI_short (by omega)] at hc
        omega
    have HT : Hid (¬ n < pos → pos + cutI ((bs s).drop pos) (n - pos) = cutI (bs s) n) := fun h => by
      rcases hk with ⟨rfl, rfl⟩ | ⟨h1, h2, h3⟩
      · simp
      · rw [cutI_step h1 (by omega), List.drop_drop, ← h3, show n - k - ((piece ((bs s).drop k)).2 : Nat) = n - pos by omega] at hc
        omega
    clear hk hc
    by_cases hp : pos < s.size
    · have hnx : ∀ ty, (Instr.next (.pointer (some ⟨w.heap.size, 0, none⟩)) true ty).run Tryd.prog (w.iter s pos) = _ := fun ty => run_next_any w s pos ty hp
      rw [decode_eq s pos hp] at hnx
      have hne : (bs s).drop pos ≠ [] := fun e => by
        have h1 := congrArg List.length e
        rw [List.length_drop, bs_len, List.length_nil] at h1
        omega
      have HP : Hid ((fixed (rune ((bs s).drop pos))).2 = (piece ((bs s).drop pos)).2 ∧ 1 ≤ (piece ((bs s).drop pos)).2) := ⟨fixed_piece _, (piece_pos hne).1⟩
      have HE : Hid ((bs s).drop pos ≠ []) := hne
      clear hne
      by_cases hnp : n < pos
      · have hr := HS.out hnp
        go_wp2_with fail
        go_ret
        exact ⟨rfl, (Keep.refl _ _).alloc _⟩
      · have hnp' : ¬ n < (pos : Int) := hnp
        go_wp2_with fail
        go_roundw
        case rel => exact ⟨pos + (fixed (rune ((bs s).drop pos))).2, pos, rfl, rfl, Or.inr ⟨HE.out, by omega, by rw [HP.out.1]⟩, HT.out hnp⟩
        case measure => have := HP.out; simp; omega
    · have hnx : ∀ ty, (Instr.next (.pointer (some ⟨w.heap.size, 0, none⟩)) true ty).run Tryd.prog (w.iter s pos) = _ := fun ty => run_next_end w s pos ty hp
      have hr := HS.out (by have := HN.out; omega)
      go_wp2_with fail
      go_ret
      exact ⟨rfl, (Keep.refl _ _).alloc _⟩

/-- Where the library's own contract of stringslite.Clone finds its function and types. -/
def renClone : Go.Shelf.Ren := ⟨fun | 316 => 30 | n => n, fun | 37 => 39 | 127 => 48 | n => n, fun n => n⟩
theorem laysClone : Go.Proofs.LaysM.n316 Tryd.prog renClone :=
  { mixed := by kernel_rfl, f316 := by kernel_rfl,
    t0 := by kernel_rfl, a0 := fun _ => by kernel_rfl, z0 := fun _ => by kernel_rfl, v0 := fun _ => by kernel_rfl,
    t3 := by kernel_rfl, a3 := fun _ => by kernel_rfl, z3 := fun _ => by kernel_rfl, v3 := fun _ => by kernel_rfl,
    t4 := by kernel_rfl, a4 := fun _ => by kernel_rfl, z4 := fun _ => by kernel_rfl, v4 := fun _ => by kernel_rfl,
    t5 := by kernel_rfl, a5 := fun _ => by kernel_rfl, z5 := fun _ => by kernel_rfl, v5 := fun _ => by kernel_rfl,
    t9 := by kernel_rfl, a9 := fun _ => by kernel_rfl, z9 := fun _ => by kernel_rfl, v9 := fun _ => by kernel_rfl,
    t37 := by kernel_rfl, a37 := fun _ => by kernel_rfl, z37 := fun _ => by kernel_rfl, v37 := fun _ => by kernel_rfl,
    t127 := by kernel_rfl, a127 := fun _ => by kernel_rfl, z127 := fun _ => by kernel_rfl, v127 := fun _ => by kernel_rfl,
    i0 := by kernel_rfl, i3 := by kernel_rfl, i4 := by kernel_rfl, i5 := by kernel_rfl, i9 := by kernel_rfl, i37 := by kernel_rfl, i127 := by kernel_rfl }

/-- A copy of a text: the library's own contract. -/
theorem clone_in (s : ByteArray) (w : World) (hlim : s.size ≤ 140737488355328) : Calls Tryd.prog 30 #[.string s] w fun e w' => e = .returned (.string s) ∧ Keep (fun _ => False) w w' :=
  (Any.stringslite_Clone laysClone s w (by omega)).mono fun _ _ ⟨h1, h2⟩ => ⟨h1, Keep.of_below h2⟩

theorem clone_any (s : ByteArray) (w : World) (hlim : s.size ≤ 140737488355328) : Calls Tryd.prog 23 #[.string s] w fun e w' => e = .returned (.string s) ∧ Keep (fun _ => False) w w' := by
  have hc := clone_in s w hlim
  go_enter Tryd.func23, Tryd.ntmps23
  go_wp2_with fail
  refine hc.mono ?_
  rintro e w' ⟨rfl, hk⟩
  go_wp2_with fail
  go_ret
  exact ⟨rfl, hk⟩

theorem extract_all (s : ByteArray) : s.extract 0 s.size = s := by
  apply ByteArray.ext
  rw [ByteArray.data_extract]
  exact Array.extract_size
theorem cutI_le (l : List Nat) (m : Int) : cutI l m ≤ l.length := by
  unfold cutI
  split
  · omega
  · exact (cutL_bd l _).2.1
theorem cutI_all {l : List Nat} {m : Int} (h : (l.length : Int) ≤ m) : cutI l m = l.length := by
  unfold cutI
  rw [if_neg (by omega)]
  exact (cutL_bd l _).2.2.1 (by omega)

/-- Cut. -/
theorem cut_any (s : ByteArray) (n : Int) (hs : s.size ≤ 140737488355328) (w : World) : Calls Tryd.prog 12 #[.string s, .int .i64 n] w fun e w' => e = .returned (.string (s.extract 0 (cutI (bs s) n))) ∧ Keep (fun _ => False) w w' := by
  by_cases hn : n < s.size
  · have hl := laststart_any s n hn w
    have hle := cutI_le (bs s) n
    rw [bs_len] at hle
    generalize cutI (bs s) n = k at *
    have hk : (k : Int) ≤ s.size := by omega
    go_enter Tryd.func12, Tryd.ntmps12
    go_wp2_with fail
    refine hl.mono ?_
    rintro e w1 ⟨rfl, k1⟩
    have hc := clone_any (s.extract 0 k) w1 (by simp; omega)
    go_wp2_with fail
    refine hc.mono ?_
    rintro e w2 ⟨rfl, k2⟩
    go_wp2_with fail
    go_ret
    exact ⟨rfl, k1.trans k2⟩
  · rw [cutI_all (by rw [bs_len]; omega), bs_len, extract_all]
    have hc := clone_any s w hs
    go_enter Tryd.func12, Tryd.ntmps12
    go_wp2_with fail
    refine hc.mono ?_
    rintro e w2 ⟨rfl, k2⟩
    go_wp2_with fail
    go_ret
    exact ⟨rfl, k2⟩
end Tg
end Go.Proofs.YtnfbcaanedkodaaDoor
