/-
  Proved: for every two rows of bytes that hold together at most 1048576 values the call of the statement CrcJoins returns true, and what was handed in reads as before; the bound on what is handed in is the one condition.
-/
import Derived.Test.YtmobcidcpfecbaaRows
import Derived.Test.YtmobcidcpfecbaaJoin
import Derived.WalkKit
import Derived.ProofKit
import Derived.OpenShut
import Derived.ChangeOld
import Derived.Below
import Derived.JoinedCond
namespace Go.Proofs.Ytmobcidcpfecbaa.crcJoins
open Go.ChangeShapes Go.WideShapes Go.ChangeAt Go.RowKit

theorem own : ownKnob Try.prog.godebug = none := by kernel_rfl

namespace Walk
open Crc
set_option maxHeartbeats 1000000 in
theorem joins_walk (a : Option Addr) (len cap : Nat) (l : List Int) (b : Option Addr) (len2 cap2 : Nat) (l2 : List Int) (w : World) (hr : Row w a len cap l) (hr2 : Row w b len2 cap2 l2) (hlen : len + len2 ≤ 1048576) :
    Calls Try.prog 5 #[.slice a len cap, .slice b len2 cap2] w fun e w' => e = .returned (.bool true) ∧ Below w.heap.size w w' := by
  go_enter Try.func5, Try.ntmps5
  go_wp2_with fail
  refine (awake_any _).mono ?_
  rintro e w1 ⟨rfl, hb1⟩
  have hs1 := hr.below hb1
  have hs2 := hr2.below hb1
  have hba : Below w1.heap.size w1 (w1.alloc (.cells #[] 5)) := (Below.refl _ _).alloc (Nat.le_refl _) _
  obtain ⟨g3, cap3, w3, happ1, hr3, hb3, hg3, hf3⟩ := append_rows (w1.alloc (.cells #[] 5)) w1.heap.size w1.heap.size 0 0 [] (row_new w1 [] (0, 0) _ 0 rfl (by decide) (by decide) (by decide)) (fun i hi => absurd hi (by omega)) (Nat.le_refl _) (by simp)
    a len cap l (hs1.below hba) (by omega)
  rw [Nat.zero_add] at happ1 hr3
  rw [List.nil_append] at hr3
  have hb13 : Below w1.heap.size w1 w3 := hba.trans hb3
  have hz3 := hb13.size
  obtain ⟨g4, cap4, w4, happ2, hr4, hb4, hg4, hf4⟩ := append_rows w3 w1.heap.size g3 cap3 len l hr3 hf3 hg3 hz3 b len2 cap2 l2 (hs2.below hb13) (by omega)
  have hb : Below w.heap.size w w4 := (hb1.trans (hb13.mono hb1.size)).trans (hb4.mono hb1.size)
  clear hr hr2 hb1 hba hr3 hb3 hg3 hf3 hb13 hz3 hb4 hg4 hf4
  go_wp2_with (first | (go_at_call 9; refine (sum_any _ _ _ _ _ hs1).mono ?_; rintro e w' ⟨rfl, rfl⟩) | (go_at_call 11; refine (more_any _ _ _ _ _ _ hs2).mono ?_; rintro e w' ⟨rfl, rfl⟩) | (at_builtin; refine wpList_append_run rfl _ _ 25 rfl rfl rfl happ1 ?_) | (at_builtin; refine wpList_append_run rfl _ _ 25 rfl rfl rfl happ2 ?_) | (go_at_call 9; refine (sum_any _ _ _ _ _ hr4).mono ?_; rintro e w' ⟨rfl, rfl⟩))
  go_ret
  exact ⟨by rw [more_append]; simp, hb⟩
end Walk

theorem many {H : Type} : ∀ l : List (DataW H), l.length ≤ Rows.uptoBulkAll l
  | [] => by simp [Rows.uptoBulkAll]
  | x :: r => by
    have h1 := many r
    have h2 : 1 ≤ Rows.uptoBulk x := by cases x with
      | lit y => cases y <;> simp [Rows.uptoBulk]
      | _ => simp [Rows.uptoBulk]
    simp only [Rows.uptoBulkAll, List.length_cons]
    omega

theorem held_le {H : Type} {d : DataW H} {len cap : Nat} (h : (d = .nil ∧ len = 0) ∨ ∃ el sp, d = .slice el sp ∧ el.length = len ∧ el.length + sp.length = cap) : len ≤ Rows.uptoBulk d := by
  rcases h with ⟨_, e⟩ | ⟨el, sp, rfl, e1, _⟩
  · omega
  · have := many el
    simp only [Rows.uptoBulk]
    omega

theorem contract (H : Type) (enc : TypeId × Value → H) (W : World) (base : Nat) (args : Array Value) (ds gs : List (DataW H)) (before : List MemPlace)
    (hval : ∀ (j : Nat) t v, Try.f5.params[j]? = some t → args[j]? = some v → Value.okWide Try.prog W .any base t v)
    (hW : DataW.Whole enc Try.prog Try.f5.params.toList Rows.crcJoinsSpec.vars false W args.toList ds gs before) (hk : Rows.uptoSmall H (ds ++ gs) = true) :
    Calls Try.prog 5 args W fun e W' => ∃ v, e = .returned v ∧ Rows.crcJoinsSpec.post enc Try.prog Try.f5 false true false false W args v W' := by
  have hW' := hW
  obtain ⟨p, q, hA0, hV, rfl, _, _⟩ := hW
  have hA : DataW.TrodAll enc Try.prog W 0 (fun _ => true) true Try.f5.params.toList args.toList ds p := hA0
  rw [Try.params5] at hA hval
  obtain ⟨v0, vs0, d0, ds0, p0, q0, hargs, rfl, rfl, h0, r0⟩ := trodAll_cons hA
  obtain ⟨v1, vs1, d1, ds1, p1, q1, rfl, rfl, rfl, h1, r1⟩ := trodAll_cons r0
  obtain ⟨rfl, rfl, rfl⟩ := trodAll_nil r1
  obtain rfl : args = #[v0, v1] := by cases args; simp_all
  obtain ⟨rfl, rfl⟩ := trodVars_none hV
  obtain ⟨a0, len0, cap0, rfl⟩ := okWide_slice Try.underlying25 (hval 0 25 v0 rfl rfl)
  have lt0 : ∀ x ∈ p0, x.block < W.heap.size := by obtain ⟨m, hm⟩ := h0; exact DataW.trod_lt m _ _ _ hm
  obtain ⟨l0, row0, x0⟩ := Crc.open_bytes h0
  obtain ⟨a1, len1, cap1, rfl⟩ := okWide_slice Try.underlying25 (hval 1 25 v1 rfl rfl)
  have lt1 : ∀ x ∈ p1, x.block < W.heap.size := by obtain ⟨m, hm⟩ := h1; exact DataW.trod_lt m _ _ _ hm
  obtain ⟨l1, row1, x1⟩ := Crc.open_bytes h1
  clear hA0
  have hb : Rows.uptoBulkAll ([d0, d1] ++ []) ≤ 1048576 := of_decide_eq_true hk
  simp only [List.append_nil, Rows.uptoBulkAll] at hb
  have b0 := held_le x0
  have b1 := held_le x1
  refine (Walk.joins_walk a0 len0 cap0 l0 a1 len1 cap1 l1 W row0 row1 (by omega)).mono fun e W' ⟨he, bel⟩ => ?_
  subst he
  exact ⟨_, rfl, _, _, _, [], _, [], hW', trodAll_mk1 (shut_bool Try.underlying4 _), (trodAll_cons_mk (Below.trod Crc.laidOut (by kernel_rfl) (of_decide_eq_true (by kernel_rfl)) h0 bel lt0) (trodAll_cons_mk (Below.trod Crc.laidOut (by kernel_rfl) (of_decide_eq_true (by kernel_rfl)) h1 bel lt1) trodAll_mk0)), rfl, bel.frame _, fun h => by cases h⟩

set_option maxRecDepth 100000 in
theorem lifted (os : Os) (started : os.Started) (H : Type) (enc : TypeId × Value → H) (F : Stop.Interp) :
    ReturnsInHanded {} Try.checked os 5 .any ((Rows.OpenSpec.upto Rows.crcJoinsSpec).pre6 enc Try.prog Try.f5 Rows.crcJoinsUptoRow.domain false) (((Rows.OpenSpec.upto Rows.crcJoinsSpec).at F).post enc Try.prog Try.f5 false true false false) := by
  refine returnsInHanded_of_cond (C := Try.checked) (s := Rows.OpenSpec.upto Rows.crcJoinsSpec) (k := Rows.uptoSmall) rfl own started (by kernel_rfl) Try.func5
    (OpenSpec.witness (enc := enc) (C := Try.checked) (s := Rows.OpenSpec.upto Rows.crcJoinsSpec) (k := Rows.uptoSmall) rfl false ⟨#[], #[.slice none 0 0, .slice none 0 0], []⟩ 8 (by kernel_rfl) (by kernel_rfl) (by kernel_rfl)
      (x := ([.nil, .nil], [], [])) (by kernel_rfl) rfl (by kernel_rfl)) ?_
  intro W base args ds gs before hval hW _ hk _
  exact contract H enc W base args ds gs before hval hW hk

theorem proved : Rows.CrcJoinsUptoSaid :=
  OpenClaim.holds_of_cond 5 Try.f5 rfl rfl rfl rfl rfl rfl rfl ⟨rfl, rfl, rfl, rfl, rfl⟩ rfl rfl rfl rfl rfl (by kernel_rfl) Try.func5 (by kernel_rfl)
    (of_decide_eq_true (by kernel_rfl)) (by unfold Func.isWrapper; first | (rw [if_pos (by decide +kernel)]; kernel_rfl) | (rw [if_neg (by decide +kernel)]; exact ⟨rfl, rfl⟩))
    (fun os started H enc _ F => lifted os started H enc F)
#print axioms proved
end Go.Proofs.Ytmobcidcpfecbaa.crcJoins
