/-
  Proved: for every row of bytes, every place and every change of four bytes the call of the statement CrcTells returns true, and what was handed in reads as before; the one condition is the form's own, that a row takes no more bytes than a process can address.
-/
import Derived.Test.YtmobcidcpfecbaaRows
import Derived.Test.YtmobcidcpfecbaaTold
import Derived.WalkKit
import Derived.ProofKit
import Derived.OpenShut
import Derived.ShutString
import Derived.ChangeOld
import Derived.Below
import Derived.SizedLaws
namespace Go.Proofs.Ytmobcidcpfecbaa.crcTells
open Go.ChangeShapes Go.WideShapes Go.ChangeAt Go.RowKit
open Go.ChangeMaps (open_string shut_string)
set_option linter.unusedVariables false

theorem own : ownKnob Try.prog.godebug = none := by kernel_rfl
theorem laidOut : laidOutB Try.prog = true := by kernel_rfl

namespace Walk
open Crc
set_option maxHeartbeats 1000000 in
theorem tells_out (a : Option Addr) (len cap : Nat) (at_ : Int) (c : BitVec 32) (w : World) (hlen : len ≤ 140737488351232) (ha : -9223372036854775808 ≤ at_ ∧ at_ ≤ 9223372036854775807) (hin : at_ < 0 ∨ (len : Int) - 4 < at_) :
    Calls Try.prog 6 #[.slice a len cap, .int .i64 at_, .int .u32 (val c)] w fun e w' => e = .returned (.bool true) ∧ Below w.heap.size w w' := by
  by_cases h0 : at_ < 0
  · go_enter Try.func6, Try.ntmps6
    go_wp2_with (go_at_call 8; refine (awake_any _).mono ?_; rintro e w' ⟨rfl, hb⟩)
    go_ret
    exact ⟨rfl, hb⟩
  · have h4 : (len : Int) - 4 < at_ := by omega
    go_enter Try.func6, Try.ntmps6
    go_wp2_with (go_at_call 8; refine (awake_any _).mono ?_; rintro e w' ⟨rfl, hb⟩)
    go_ret
    exact ⟨rfl, hb⟩

theorem ret_bool {a : Bool} (h : a = true) : Ending.returned (.bool a) = .returned (.bool true) := by rw [h]

theorem told_bool (l : List Int) (p : Nat) (c : BitVec 32) (hb : ∀ n ∈ l, 0 ≤ n ∧ n ≤ 255) (h : p + 4 ≤ l.length) : ((val (more 0#32 (chg l p c 4)) == val (more 0#32 l)) == (val c == 0)) = true := by
  have ht := told l p c hb h
  have e1 : (val (more 0#32 (chg l p c 4)) == val (more 0#32 l)) = decide (c = 0#32) := by
    rw [Bool.eq_iff_iff, beq_iff_eq, decide_eq_true_eq, ← ht]
    exact ⟨val_inj, fun e => by rw [e]⟩
  have e2 : (val c == 0) = decide (c = 0#32) := by
    rw [Bool.eq_iff_iff, beq_iff_eq, decide_eq_true_eq]
    exact ⟨fun e => val_inj (b := 0#32) e, fun e => by rw [e]; rfl⟩
  rw [e1, e2]
  simp

set_option maxHeartbeats 1000000 in
theorem tells_in (a : Option Addr) (len cap : Nat) (l : List Int) (p : Nat) (c : BitVec 32) (w : World) (hr : Row w a len cap l) (hlen : len ≤ 140737488351232) (hp : p + 4 ≤ len) :
    Calls Try.prog 6 #[.slice a len cap, .int .i64 p, .int .u32 (val c)] w fun e w' => e = .returned (.bool true) ∧ Below w.heap.size w w' := by
  go_enter Try.func6, Try.ntmps6
  go_wp2_with fail
  refine (awake_any _).mono ?_
  rintro e w1 ⟨rfl, hb1⟩
  have hr1 := hr.below hb1
  have htx := hr1.text
  have hl : l.length = len := hr.1
  obtain ⟨cap2, w2, hrow, hr2, hb2, hs2, hf2⟩ := text_row w1 l hr.2.2.2.1 (by omega)
  rw [hl] at hrow hr2
  have hd1 : decide ((p : Int) < 0) = false := by simp
  have hd2 : decide ((len : Int) - 4 < (p : Int)) = false := by simp; omega
  go_wp2_with fail
  clear htx hrow hd1 hd2
  go_loopw [8] (fun i wr => ∃ k : Nat, k ≤ 4 ∧ i = .int .i64 k ∧ Row wr (some ⟨w1.heap.size, 0, none⟩) len cap2 (chg l p c k) ∧ Free wr w1.heap.size cap2 ∧ Below w1.heap.size w1 wr) (fun i _ => 4 - (intOf i).toNat)
  case atStart => exact ⟨0, by omega, rfl, hr2, hf2, hb2⟩
  case round =>
    obtain ⟨k, hk, rfl, hrk, hfk, hbk⟩ := hrel
    by_cases hlt : k < 4
    · have hck := hrk.cellAt (i := p + k) (by omega)
      have hfk2 := (hfk (p + k) (by have := hrk.2.1; omega)).2
      have hbd := getD_bound hrk.2.2.2.1 (p + k)
      have HC : Hid (chg l p c (k + 1) = (chg l p c k).set (p + k) (bits .xor .u8 ((chg l p c k).getD (p + k) 0) (chb c k))) := rfl
      generalize (chg l p c k).getD (p + k) 0 = n at hck hbd HC
      go_wp2_with fail
      refine ⟨⟨k + 1, by omega, by go_num, ?_, hfk.set _ _, hbk.setCell (Nat.le_refl _) _⟩, by simp [intOf]; omega⟩
      rw [HC.out]
      exact hrk.set (by omega) (xor8_bd _ _)
    · obtain rfl : k = 4 := by omega
      have hra := hr1.below (hbk)
      have hbw : Below w.heap.size w wr := hb1.trans (hbk.mono hb1.size)
      have hrb := hr.2.2.2.1
      clear hr1 hr2 hb2 hs2 hfk hbk hb1 hr
      go_wp2_with (first | (go_at_call 9; refine (sum_any _ _ _ _ _ hrk).mono ?_; rintro e w' ⟨rfl, rfl⟩) | (go_at_call 9; refine (sum_any _ _ _ _ _ hra).mono ?_; rintro e w' ⟨rfl, rfl⟩))
      go_ret
      exact ⟨ret_bool (told_bool l p c hrb (by omega)), hbw⟩

theorem tells_any (a : Option Addr) (len cap : Nat) (l : List Int) (z : Int) (c : BitVec 32) (w : World) (hr : Row w a len cap l) (hlen : len ≤ 140737488351232) (hz : -9223372036854775808 ≤ z ∧ z ≤ 9223372036854775807) :
    Calls Try.prog 6 #[.slice a len cap, .int .i64 z, .int .u32 (val c)] w fun e w' => e = .returned (.bool true) ∧ Below w.heap.size w w' := by
  by_cases hin : z < 0 ∨ (len : Int) - 4 < z
  · exact tells_out a len cap z c w hlen hz hin
  · obtain ⟨p, rfl⟩ : ∃ p : Nat, z = p := ⟨z.toNat, by omega⟩
    exact tells_in a len cap l p c w hr hlen (by omega)
end Walk

set_option maxRecDepth 100000 in
theorem lifted (os : Os) (started : os.Started) (H : Type) (enc : TypeId × Value → H) :
    ReturnsInHanded {} Try.checked os 6 .any (Rows.crcTellsSpec.pre6 enc Try.prog Try.f6 Rows.crcTellsRow.domain false) (Rows.crcTellsSpec.post enc Try.prog Try.f6 false true false false) := by
  refine returnsInHanded_of_change_sized (C := Try.checked) own started (by kernel_rfl) Try.func6
    (ChangeSpec.witness6 (enc := enc) (C := Try.checked) false ⟨#[], #[.slice none 0 0, .int .i64 0, .int .u32 0], []⟩ 8 (by kernel_rfl) (by kernel_rfl) (by kernel_rfl) (by kernel_rfl)) ?_
  intro W base args ds gs before hval0 hW _ hsz0 _
  have hsz : (DataW.weightsEach Try.prog (Try.f6.params.toList ++ Rows.crcTellsSpec.plain.varTypes Try.prog) (ds ++ gs)).all (· ≤ reachBytes) = true := hsz0
  clear hsz0
  have hval : ∀ (j : Nat) t v, Try.f6.params[j]? = some t → args[j]? = some v → Value.okWide Try.prog W .any base t v := hval0
  have hW' := hW
  obtain ⟨p, q, hA0, hV, rfl, hfz, hnd⟩ := hW
  have hA : DataW.TrodAll enc Try.prog W 0 (fun _ => true) true Try.f6.params.toList args.toList ds p := hA0
  rw [Try.params6] at hA hval hsz
  obtain ⟨v0, vs0, d0, ds0, p0, q0, hargs, rfl, rfl, h0, r0⟩ := trodAll_cons hA
  obtain ⟨v1, vs1, d1, ds1, p1, q1, rfl, rfl, rfl, h1, r1⟩ := trodAll_cons r0
  obtain ⟨v2, vs2, d2, ds2, p2, q2, rfl, rfl, rfl, h2, r2⟩ := trodAll_cons r1
  obtain ⟨rfl, rfl, rfl⟩ := trodAll_nil r2
  obtain rfl : args = #[v0, v1, v2] := by cases args; simp_all
  obtain ⟨rfl, rfl⟩ := trodVars_none hV
  obtain ⟨a0, len0, cap0, rfl⟩ := okWide_slice Try.underlying25 (hval 0 25 v0 rfl rfl)
  have k0 := h0
  have lt0 : ∀ x ∈ p0, x.block < W.heap.size := by obtain ⟨m, hm⟩ := k0; exact DataW.trod_lt m _ _ _ hm
  obtain ⟨l0, row0, x0⟩ := Crc.open_bytes h0
  have n0 : len0 ≤ 140737488351232 := by
    rcases x0 with ⟨_, e⟩ | ⟨el, sp, e, e1, e2⟩
    · omega
    · subst e
      have := sized_slice hsz (j := 0) (t := 25) (e := 5) rfl rfl Try.underlying25
      rw [Crc.bytes5] at this
      simp only [reachBytes] at this
      omega
  obtain ⟨a1, rfl, rfl, rfl, w1⟩ := open_int Try.underlying3 (hval 1 3 v1 rfl rfl) h1
  obtain ⟨a2, rfl, rfl, rfl, w2⟩ := open_int Try.underlying23 (hval 2 23 v2 rfl rfl) h2
  clear hA0 hval0
  obtain ⟨c2, e2⟩ := Crc.val_of (bounds_u32 w2)
  subst e2
  refine (Walk.tells_any a0 len0 cap0 l0 a1 c2 W row0 n0 (bounds_i64 w1)).mono fun e W' ⟨he, bel⟩ => ?_
  subst he
  exact ⟨_, rfl, _, _, _, [], _, [], hW', trodAll_mk1 (shut_bool Try.underlying4 _), (trodAll_cons_mk (Below.trod laidOut (by kernel_rfl) (of_decide_eq_true (by kernel_rfl)) k0 bel lt0) (trodAll_cons_mk (shut_int Try.underlying3 w1) (trodAll_cons_mk (shut_int Try.underlying23 w2) trodAll_mk0))), rfl, bel.frame _, fun h => by cases h⟩

theorem over : Rows.crcTellsRow.holds Try.pinned (OpenSpec.ofChange Rows.crcTellsSpec) :=
  OpenClaim.holds_of_wide 6 Try.f6 rfl rfl rfl rfl rfl rfl rfl ⟨rfl, rfl, rfl, rfl, rfl⟩ rfl rfl rfl rfl rfl (by kernel_rfl) Try.func6 (by kernel_rfl)
    (of_decide_eq_true (by kernel_rfl)) (by unfold Func.isWrapper; first | (rw [if_pos (by decide +kernel)]; kernel_rfl) | (rw [if_neg (by decide +kernel)]; exact ⟨rfl, rfl⟩))
    (fun os started H enc _ => lifted os started H enc)

theorem proved : Rows.CrcTellsSaid := over
#print axioms proved
end Go.Proofs.Ytmobcidcpfecbaa.crcTells
