/-
  Proved: for every row of bytes and every sum the call of the statement CrcSums returns true, and what was handed in reads as before; the one condition is the form's own, that a row takes no more bytes than a process can address.
-/
import Derived.Test.YtmobcidcpfecbaaRows
import Derived.Test.YtmobcidcpfecbaaJoin
import Derived.WalkKit
import Derived.ProofKit
import Derived.OpenShut
import Derived.ShutString
import Derived.ChangeOld
import Derived.Below
import Derived.SizedLaws
namespace Go.Proofs.Ytmobcidcpfecbaa.crcSums
open Go.ChangeShapes Go.WideShapes Go.ChangeAt Go.RowKit
open Go.ChangeMaps (open_string shut_string)
set_option linter.unusedVariables false

theorem own : ownKnob Try.prog.godebug = none := by kernel_rfl
theorem laidOut : laidOutB Try.prog = true := by kernel_rfl

namespace Walk
open Crc
theorem str_seven (l : List Int) : strOfNums (l ++ [7]) = strOfNums l ++ { data := #[7] } := by
  apply ByteArray.ext
  simp [strOfNums, ByteArray.data_append]

set_option maxHeartbeats 1000000 in
theorem sums_walk (a : Option Addr) (len cap : Nat) (l : List Int) (s : BitVec 32) (w : World) (hr : Row w a len cap l) (hlen : len ≤ 140737488351232) :
    Calls Try.prog 4 #[.slice a len cap, .int .u32 (val s)] w fun e w' => e = .returned (.bool true) ∧ Below w.heap.size w w' := by
  have hl : l.length = len := hr.1
  obtain ⟨cap1, w1, hrow, hr1, hb1, hs1, hsp⟩ := text_row w l hr.2.2.2.1 (by omega)
  rw [hl] at hrow hr1
  have hba : Below w1.heap.size w1 (w1.alloc (.cells #[.int .u8 7] 5)) := (Below.refl _ _).alloc (Nat.le_refl _) _
  obtain ⟨g2, cap2, w2, happ, hr2, hb2, hg2, _⟩ := append_rows (w1.alloc (.cells #[.int .u8 7] 5)) w.heap.size w.heap.size cap1 len l (hr1.below hba) (Free.below hsp hba) (Nat.le_refl _) (by simp; omega)
    (some ⟨w.heap.size + 1, 0, none⟩) 1 1 [7] (row_new w1 [7] (0, 0) _ 1 hs1.symm (by decide) (by decide) (by decide)) (by omega)
  have hbw : Below w.heap.size w w2 := (hb1.trans (hba.mono (by omega))).trans hb2
  have hrw := hr.below hbw
  have htx := hr.text
  clear hsp hr1 hb1 hba hb2
  go_enter Try.func4, Try.ntmps4
  go_wp2_with (at_builtin; refine wpList_append_run rfl _ _ 25 rfl rfl rfl happ ?_)
  refine (awake_any _).mono ?_
  rintro e w3 ⟨rfl, hb3⟩
  have hb4 : Below w.heap.size w w3 := hbw.trans (hb3.mono hbw.size)
  have hra := hr2.below hb3
  have hri := Row.init (m := [7]) hra
  have hrb := hrw.below hb3
  have ht1 := hra.text
  have ht2 := hrb.text
  have hno : ¬ 9223372036854775807 < (strOfNums l).size + 1 := by rw [strOfNums_size]; omega
  have hlc2 : len ≤ cap2 := hri.2.1
  clear htx hrow happ hr2 hrw hr hbw hb3
  go_wp2_with (first | (go_at_call 9; refine (sum_any _ _ _ _ _ hri).mono ?_; rintro e w' ⟨rfl, rfl⟩) | (go_at_call 10; refine (refsum_any _ _ _ _ _ hrb).mono ?_; rintro e w' ⟨rfl, rfl⟩) | (go_at_call 11; refine (more_any _ _ _ _ _ _ hri).mono ?_; rintro e w' ⟨rfl, rfl⟩) | (go_at_call 12; refine (refmore_any _ _ _ _ _ _ hrb).mono ?_; rintro e w' ⟨rfl, rfl⟩))
  go_ret
  exact ⟨by rw [str_seven]; simp, hb4⟩
end Walk

set_option maxRecDepth 100000 in
theorem lifted (os : Os) (started : os.Started) (H : Type) (enc : TypeId × Value → H) :
    ReturnsInHanded {} Try.checked os 4 .any (Rows.crcSumsSpec.pre6 enc Try.prog Try.f4 Rows.crcSumsRow.domain false) (Rows.crcSumsSpec.post enc Try.prog Try.f4 false true false false) := by
  refine returnsInHanded_of_change_sized (C := Try.checked) own started (by kernel_rfl) Try.func4
    (ChangeSpec.witness6 (enc := enc) (C := Try.checked) false ⟨#[], #[.slice none 0 0, .int .u32 0], []⟩ 8 (by kernel_rfl) (by kernel_rfl) (by kernel_rfl) (by kernel_rfl)) ?_
  intro W base args ds gs before hval0 hW _ hsz0 _
  have hsz : (DataW.weightsEach Try.prog (Try.f4.params.toList ++ Rows.crcSumsSpec.plain.varTypes Try.prog) (ds ++ gs)).all (· ≤ reachBytes) = true := hsz0
  clear hsz0
  have hval : ∀ (j : Nat) t v, Try.f4.params[j]? = some t → args[j]? = some v → Value.okWide Try.prog W .any base t v := hval0
  have hW' := hW
  obtain ⟨p, q, hA0, hV, rfl, hfz, hnd⟩ := hW
  have hA : DataW.TrodAll enc Try.prog W 0 (fun _ => true) true Try.f4.params.toList args.toList ds p := hA0
  rw [Try.params4] at hA hval hsz
  obtain ⟨v0, vs0, d0, ds0, p0, q0, hargs, rfl, rfl, h0, r0⟩ := trodAll_cons hA
  obtain ⟨v1, vs1, d1, ds1, p1, q1, rfl, rfl, rfl, h1, r1⟩ := trodAll_cons r0
  obtain ⟨rfl, rfl, rfl⟩ := trodAll_nil r1
  obtain rfl : args = #[v0, v1] := by cases args; simp_all
  obtain ⟨rfl, rfl⟩ := trodVars_none hV
  obtain ⟨a0, len0, cap0, rfl⟩ := okWide_slice Try.underlying25 (hval 0 25 v0 rfl rfl)
  have k0 := h0
  have lt0 : ∀ x ∈ p0, x.block < W.heap.size := by obtain ⟨m, hm⟩ := k0; exact DataW.trod_lt m _ _ _ hm
  obtain ⟨l0, row0, x0⟩ := Crc.open_bytes h0
  have n0 : len0 ≤ 140737488351232 := by
    rcases x0 with ⟨_, e⟩ | ⟨el, sp, e, e1, e2⟩
    · omega
    · subst e
      have := sized_slice hsz (j := 0) (t := 25) (e := 5) rfl rfl Try.underlying25
      rw [Crc.bytes5] at this
      simp only [reachBytes] at this
      omega
  obtain ⟨a1, rfl, rfl, rfl, w1⟩ := open_int Try.underlying23 (hval 1 23 v1 rfl rfl) h1
  clear hA0 hval0
  obtain ⟨c1, e1⟩ := Crc.val_of (bounds_u32 w1)
  subst e1
  refine (Walk.sums_walk a0 len0 cap0 l0 c1 W row0 n0).mono fun e W' ⟨he, bel⟩ => ?_
  subst he
  exact ⟨_, rfl, _, _, _, [], _, [], hW', trodAll_mk1 (shut_bool Try.underlying4 _), (trodAll_cons_mk (Below.trod laidOut (by kernel_rfl) (of_decide_eq_true (by kernel_rfl)) k0 bel lt0) (trodAll_cons_mk (shut_int Try.underlying23 w1) trodAll_mk0)), rfl, bel.frame _, fun h => by cases h⟩

theorem over : Rows.crcSumsRow.holds Try.pinned (OpenSpec.ofChange Rows.crcSumsSpec) :=
  OpenClaim.holds_of_wide 4 Try.f4 rfl rfl rfl rfl rfl rfl rfl ⟨rfl, rfl, rfl, rfl, rfl⟩ rfl rfl rfl rfl rfl (by kernel_rfl) Try.func4 (by kernel_rfl)
    (of_decide_eq_true (by kernel_rfl)) (by unfold Func.isWrapper; first | (rw [if_pos (by decide +kernel)]; kernel_rfl) | (rw [if_neg (by decide +kernel)]; exact ⟨rfl, rfl⟩))
    (fun os started H enc _ => lifted os started H enc)

theorem proved : Rows.CrcSumsSaid := over
#print axioms proved
end Go.Proofs.Ytmobcidcpfecbaa.crcSums
