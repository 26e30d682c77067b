/-
  isRune, Runes, lastStart, Clone and Cut over any memory, for strings of any bytes.
-/
import Derived.Test.YtgilagmgepogbaaDoorOwn
import Derived.Shelf.Strconv.Clone
namespace Go.Proofs.YtgilagmgepogbaaDoor
open Go.ChangeShapes Go.WideShapes Go.ChangeAt Go.RowKit
namespace Tg
open Qm

/-- Three bytes at the beginning. -/
theorem extract_three (t : ByteArray) : (t.extract 0 3 = ⟨#[239, 191, 189]⟩) ↔ (bs t).take 3 = [239, 191, 189] := by
  have e : bs (t.extract 0 3) = (bs t).take 3 := by
    unfold bs
    rw [ByteArray.data_extract, Array.toList_extract, List.extract_eq_take_drop, List.map_take, List.drop_zero]
  rw [← e]
  constructor
  · intro h; rw [h]; decide
  · intro h; rw [← str_bs (t.extract 0 3), h]; decide

theorem beq_no {a b : ByteArray} (h : a ≠ b) : (a.toList == b.toList) = false := by
  rw [ByteArray.toList_eq, ByteArray.toList_eq, beq_eq_false_iff_ne]
  exact fun e => h (Go.WideShapes.bytes_inj e)

theorem hp_any (t : ByteArray) (w : World) (ht : t.size ≤ 9223372036854775807) : Calls Tryd.prog 63 #[.string t, .string ⟨#[239, 191, 189]⟩] w fun e w' => e = .returned (.bool (decide ((bs t).take 3 = [239, 191, 189]))) ∧ w' = w := by
  by_cases h : 3 ≤ t.size
  · have h3 : (3 : Int) ≤ t.size := by omega
    by_cases hb : (bs t).take 3 = [239, 191, 189]
    · have he := (extract_three t).2 hb
      rw [decide_eq_true hb]
      clear hb
      go_enter Tryd.func63, Tryd.ntmps63
      go_wp2
      go_ret
      exact ⟨rfl, rfl⟩
    · have he : ((t.extract 0 3).toList == [239, 191, 189]) = false := by
        have := beq_no (b := ⟨#[239, 191, 189]⟩) fun x => hb ((extract_three t).1 x)
        rw [ByteArray.toList_eq ⟨#[239, 191, 189]⟩] at this
        exact this
      rw [decide_eq_false hb]
      clear hb
      go_enter Tryd.func63, Tryd.ntmps63
      go_wp2
      go_ret
      exact ⟨rfl, rfl⟩
  · have h3 : ¬ (3 : Int) ≤ t.size := by omega
    have hb : ¬ (bs t).take 3 = [239, 191, 189] := fun e => by
      have := congrArg List.length e
      rw [List.length_take, bs_len] at this
      simp at this
      omega
    rw [decide_eq_false hb]
    clear hb
    go_enter Tryd.func63, Tryd.ntmps63
    go_wp2
    go_ret
    exact ⟨rfl, rfl⟩

/-- What range finds there is a rune. -/
theorem isrune_any (s : ByteArray) (i : Nat) (w : World) (hs : s.size ≤ 9223372036854775807) (hi : i < s.size) :
    Calls Tryd.prog 57 #[.string s, .int .i64 i, .int .i32 ((fixed (rune ((bs s).drop i))).1 : Nat)] w fun e w' => e = .returned (.bool (decide ((rune ((bs s).drop i)).2 ≠ 0))) ∧ w' = w := by
  have hp := hp_any (s.extract i s.size) w (by simp; omega)
  rw [bs_drop] at hp
  have hi' : (i : Int) ≤ s.size := by omega
  by_cases h0 : (rune ((bs s).drop i)).2 = 0
  · have hn : ¬ ((bs s).drop i).take 3 = [239, 191, 189] := fun e => by
      have h1 := rune_none_take (k := 3) h0
      rw [e] at h1
      exact absurd h1 (by decide)
    have hf : (fixed (rune ((bs s).drop i))).1 = 65533 := by unfold fixed; rw [if_pos h0]
    rw [hf, decide_eq_false (by simpa using h0)]
    rw [decide_eq_false hn] at hp
    clear hf hn h0
    go_enter Tryd.func57, Tryd.ntmps57
    go_wp2_with fail
    refine hp.mono ?_
    rintro e w' ⟨rfl, rfl⟩
    go_wp2_with fail
    go_ret
    exact ⟨rfl, rfl⟩
  · have hf : (fixed (rune ((bs s).drop i))).1 = (rune ((bs s).drop i)).1 := by unfold fixed; rw [if_neg h0]
    rw [hf, decide_eq_true h0]
    by_cases h1 : (rune ((bs s).drop i)).1 = 65533
    · have hn : ((bs s).drop i).take 3 = [239, 191, 189] := by
        obtain ⟨_, r, hr, _⟩ := enc_rune h0
        rw [h1] at hr
        rw [hr]
        rfl
      rw [decide_eq_true hn] at hp
      rw [h1]
      clear hf hn h0 h1
      go_enter Tryd.func57, Tryd.ntmps57
      go_wp2_with fail
      refine hp.mono ?_
      rintro e w' ⟨rfl, rfl⟩
      go_wp2_with fail
      go_ret
      exact ⟨rfl, rfl⟩
    · have hv := (enc_rune h0).1
      generalize (rune ((bs s).drop i)).1 = v at *
      unfold valid at hv
      have h2 : ((v : Int) == 65533) = false := by rw [beq_eq_false_iff_ne]; omega
      have h3 : ¬ (v : Int) = 65533 := by omega
      clear hf h0 h1 hp
      go_enter Tryd.func57, Tryd.ntmps57
      go_wp2_with fail
      go_ret
      exact ⟨rfl, rfl⟩

/-- Where the library's own contract of stringslite.Clone finds its function and types. -/
def renClone : Go.Shelf.Ren := ⟨fun | 316 => 40 | n => n, fun | 37 => 67 | 127 => 80 | n => n, fun n => n⟩
theorem laysClone : Go.Proofs.LaysM.n316 Tryd.prog renClone :=
  { mixed := by kernel_rfl, f316 := by kernel_rfl,
    t0 := by kernel_rfl, a0 := fun _ => by kernel_rfl, z0 := fun _ => by kernel_rfl, v0 := fun _ => by kernel_rfl,
    t3 := by kernel_rfl, a3 := fun _ => by kernel_rfl, z3 := fun _ => by kernel_rfl, v3 := fun _ => by kernel_rfl,
    t4 := by kernel_rfl, a4 := fun _ => by kernel_rfl, z4 := fun _ => by kernel_rfl, v4 := fun _ => by kernel_rfl,
    t5 := by kernel_rfl, a5 := fun _ => by kernel_rfl, z5 := fun _ => by kernel_rfl, v5 := fun _ => by kernel_rfl,
    t9 := by kernel_rfl, a9 := fun _ => by kernel_rfl, z9 := fun _ => by kernel_rfl, v9 := fun _ => by kernel_rfl,
    t37 := by kernel_rfl, a37 := fun _ => by kernel_rfl, z37 := fun _ => by kernel_rfl, v37 := fun _ => by kernel_rfl,
    t127 := by kernel_rfl, a127 := fun _ => by kernel_rfl, z127 := fun _ => by kernel_rfl, v127 := fun _ => by kernel_rfl,
    i0 := by kernel_rfl, i3 := by kernel_rfl, i4 := by kernel_rfl, i5 := by kernel_rfl, i9 := by kernel_rfl, i37 := by kernel_rfl, i127 := by kernel_rfl }

/-- A copy of a text: the library's own contract. -/
theorem clone_in (s : ByteArray) (w : World) (hlim : s.size ≤ 140737488355328) : Calls Tryd.prog 40 #[.string s] w fun e w' => e = .returned (.string s) ∧ Keep (fun _ => False) w w' :=
  (Any.stringslite_Clone laysClone s w (by omega)).mono fun _ _ ⟨h1, h2⟩ => ⟨h1, Keep.of_below h2⟩

theorem clone_any (s : ByteArray) (w : World) (hlim : s.size ≤ 140737488355328) : Calls Tryd.prog 29 #[.string s] w fun e w' => e = .returned (.string s) ∧ Keep (fun _ => False) w w' := by
  have hc := clone_in s w hlim
  go_enter Tryd.func29, Tryd.ntmps29
  go_wp2_with fail
  refine hc.mono ?_
  rintro e w' ⟨rfl, hk⟩
  go_wp2_with fail
  go_ret
  exact ⟨rfl, hk⟩

theorem extract_all (s : ByteArray) : s.extract 0 s.size = s := by
  apply ByteArray.ext
  rw [ByteArray.data_extract]
  exact Array.extract_size
theorem cutI_le (l : List Nat) (m : Int) : cutI l m ≤ l.length := by
  unfold cutI
  split
  · omega
  · exact (cutL_bd l _).2.1
theorem cutI_all {l : List Nat} {m : Int} (h : (l.length : Int) ≤ m) : cutI l m = l.length := by
  unfold cutI
  rw [if_neg (by omega)]
  exact (cutL_bd l _).2.2.1 (by omega)

end Tg
end Go.Proofs.YtgilagmgepogbaaDoor
