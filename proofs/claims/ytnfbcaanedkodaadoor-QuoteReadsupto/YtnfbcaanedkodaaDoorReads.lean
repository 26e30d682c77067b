/-
  The law QuoteReads over any memory in which the library's error lies, for texts of up to some bytes.
-/
import Derived.Test.YtnfbcaanedkodaaDoorRRead2
import Derived.Test.YtnfbcaanedkodaaDoorTells
namespace Go.Proofs.YtnfbcaanedkodaaDoor
open Go.ChangeShapes Go.WideShapes Go.ChangeAt Go.RowKit
namespace Tg
open Qm

/-- Both readings answer alike. -/
theorem reads_both (t : ByteArray) (hs : t.size ≤ 10000000000000) :
    (∃ (X : ByteArray) (n : Nat), (∀ W, Gl W → Calls Tryd.prog 10 #[.string t] W fun e w' => e = .returned (.tuple #[.string X, .int .i64 (n : Nat), .int .i64 0]) ∧ Keep (fun _ => False) W w') ∧ (∀ W, Calls Tryd.prog 15 #[.string t] W fun e w' => e = .returned (.tuple #[.string X, .int .i64 (n : Nat), .bool true]) ∧ Keep (fun _ => False) W w')) ∨
    ((∀ W, Gl W → Calls Tryd.prog 10 #[.string t] W fun e w' => e = .returned (.tuple #[.string ⟨#[]⟩, .int .i64 0, .int .i64 3]) ∧ Keep (fun _ => False) W w') ∧ (∀ W, Calls Tryd.prog 15 #[.string t] W fun e w' => e = .returned (.tuple #[.string ⟨#[]⟩, .int .i64 0, .bool false]) ∧ Keep (fun _ => False) W w')) := by
  cases hr : Qm.read (bs t) with
  | some q =>
    obtain ⟨x, n⟩ := q
    refine Or.inl ⟨str x, n, fun W hW => read_yes hr rfl hs W hW, fun W => (rread_any t hs W).mono ?_⟩
    rintro e w' ⟨⟨y, m, hy, rfl⟩ | ⟨hy, rfl⟩, hk⟩
    · rw [hr] at hy
      simp at hy
      obtain ⟨rfl, rfl⟩ := hy
      exact ⟨rfl, hk⟩
    · rw [hr] at hy; cases hy
  | none =>
    refine Or.inr ⟨fun W hW => read_not hr hs W hW, fun W => (rread_any t hs W).mono ?_⟩
    rintro e w' ⟨⟨y, m, hy, rfl⟩ | ⟨hy, rfl⟩, hk⟩
    · rw [hr] at hy; cases hy
    · exact ⟨rfl, hk⟩

set_option maxHeartbeats 1000000 in
set_option maxRecDepth 100000 in
theorem reads_law (s : ByteArray) (td : Bool) (at_ : Int) (put : ByteArray) (hs : s.size ≤ 1048576) (hp : put.size ≤ 1048576) (w : World) (hG : Gl w) :
    Calls Tryd.prog 5 #[.string s, .bool td, .int .i64 at_, .string put] w fun e w' => e = .returned (.bool true) ∧ Keep (fun _ => False) w w' := by
  have ha := awake_any w hG
  cases td with
  | false =>
    rcases reads_both s (by omega) with ⟨X, n, h1, h2⟩ | ⟨h1, h2⟩
    all_goals
      go_enter Tryd.func5, Tryd.ntmps5
      go_wp2_with fail
      refine ha.mono ?_
      rintro e w0 ⟨rfl, k0⟩
      clear ha
      have h1' := h1 w0 (hG.keep k0)
      clear h1
      go_wp2_with fail
      refine h1'.mono ?_
      rintro e w1 ⟨rfl, k1⟩
      clear h1'
      go_wp2_with fail
      refine (h2 _).mono ?_
      rintro e w2 ⟨rfl, k2⟩
      clear h2
      go_wp2_with fail
      go_ret
      exact ⟨rfl, k0.trans (k1.trans k2)⟩
  | true =>
    have hq := fun W => rquote_any s (by omega) W
    have hqs : (str (told (bs s))).size ≤ 8000000 := by
      have := body_len (bs s)
      rw [bs_len] at this
      rw [str_size, told_len]; omega
    generalize str (told (bs s)) = q at *
    by_cases hat : 0 ≤ at_ ∧ at_ < q.size
    · obtain ⟨j, rfl⟩ := Int.eq_ofNat_of_zero_le hat.1
      have i1 : (0 : Int) ≤ (j : Int) := by omega
      have i2 : (j : Int) < q.size := hat.2
      have i3 : IntKind.i64.wrap ((j : Int) + 1) = (j : Int) + 1 := by rw [IntKind.wrap_i64]; omega
      have i4 : (j : Int) + 1 ≤ q.size := by omega
      have i5 : (0 : Int) ≤ (j : Int) + 1 := by omega
      have i6 : (j : Int) ≤ q.size := by omega
      rcases reads_both (q.extract 0 j ++ put ++ q.extract (j + 1) q.size) (by rw [ByteArray.size_append, ByteArray.size_append]; simp; omega) with ⟨X, n, h1, h2⟩ | ⟨h1, h2⟩
      all_goals
        go_enter Tryd.func5, Tryd.ntmps5
        go_wp2_with fail
        refine ha.mono ?_
        rintro e w0 ⟨rfl, k0⟩
        clear ha
        go_wp2_with fail
        refine (hq _).mono ?_
        rintro e w1 ⟨rfl, k1⟩
        clear hq
        go_wp2_with fail
        go_quiet (fail)
        go_wp2_with fail
        refine (h1 _ (((hG.keep k0).keep k1).keep ((Keep.refl _ w1).drewN _))).mono ?_
        rintro e w2 ⟨rfl, k2⟩
        clear h1
        go_wp2_with fail
        refine (h2 _).mono ?_
        rintro e w3 ⟨rfl, k3⟩
        clear h2
        go_wp2_with fail
        go_ret
        exact ⟨rfl, k0.trans (k1.trans (((Keep.refl _ w1).drewN _).trans (k2.trans k3)))⟩
    · have i1 : (¬ (0 : Int) ≤ at_) ∨ ((0 : Int) ≤ at_ ∧ ¬ at_ < q.size) := by omega
      clear hat
      rcases i1 with i1 | ⟨i1, i2⟩ <;> rcases reads_both q (by omega) with ⟨X, n, h1, h2⟩ | ⟨h1, h2⟩
      all_goals
        go_enter Tryd.func5, Tryd.ntmps5
        go_wp2_with fail
        refine ha.mono ?_
        rintro e w0 ⟨rfl, k0⟩
        clear ha
        go_wp2_with fail
        refine (hq _).mono ?_
        rintro e w1 ⟨rfl, k1⟩
        clear hq
        have h1' := h1 w1 ((hG.keep k0).keep k1)
        clear h1
        go_wp2_with fail
        refine h1'.mono ?_
        rintro e w2 ⟨rfl, k2⟩
        clear h1'
        go_wp2_with fail
        refine (h2 _).mono ?_
        rintro e w3 ⟨rfl, k3⟩
        clear h2
        go_wp2_with fail
        go_ret
        exact ⟨rfl, k0.trans (k1.trans (k2.trans k3))⟩
end Tg
end Go.Proofs.YtnfbcaanedkodaaDoor
