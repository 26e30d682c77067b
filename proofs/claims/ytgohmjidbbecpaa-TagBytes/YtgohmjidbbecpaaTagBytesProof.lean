/-
  Proved: for every row of bytes, flag, place and change the call of the statement TagBytes returns true, and what was handed in reads as before; the one condition is the form's own, that a row takes no more bytes than a process can address.
-/
import Derived.Test.YtgohmjidbbecpaaRows
import Derived.Test.YtgohmjidbbecpaaBytesB
import Derived.Test.YtgohmjidbbecpaaBytesC
import Derived.WalkKit
import Derived.ProofKit
import Derived.OpenShut
import Derived.ShutString
import Derived.ChangeOld
import Derived.Below
import Derived.SizedLaws
namespace Go.Proofs.Ytgohmjidbbecpaa.tagBytes
open Go.ChangeShapes Go.WideShapes Go.ChangeAt Go.RowKit
open Go.ChangeMaps (open_string shut_string)
set_option linter.unusedVariables false

theorem own : ownKnob Try.prog.godebug = none := by kernel_rfl
theorem laidOut : laidOutB Try.prog = true := by kernel_rfl

namespace Walk
open Tg
theorem bytes5 : Try.prog.bytesOf 5 = 1 := by kernel_rfl
/-- An argument that is a row of bytes. -/
theorem open_bytes {H : Type} {enc : TypeId × Value → H} {W : World} {a : Option Addr} {len cap : Nat} {d : DataW H} {p : List MemPlace}
    (h : DataW.Trod enc Try.prog W 0 (fun _ => true) true 23 (.slice a len cap) d p) :
    ∃ l, Row W a len cap l ∧ ((d = .nil ∧ len = 0) ∨ ∃ el sp, d = .slice el sp ∧ el.length = len ∧ el.length + sp.length = cap) := by
  obtain ⟨fuel, hf⟩ := h
  rcases open_ints Try.underlying23 Try.underlying5 (by kernel_rfl) hf with ⟨hcs, hx⟩ | ⟨x, l, c, zs, hcs, _, hl, hm, hz, hx, hcell, hwz⟩
  · simp [Value.cells] at hcs
    obtain ⟨rfl, rfl, rfl⟩ := hcs
    simp only [Prod.mk.injEq] at hx
    exact ⟨[], ⟨rfl, by omega, by omega, by simp, Or.inl rfl⟩, Or.inl ⟨hx.1, rfl⟩⟩
  · simp [Value.cells] at hcs
    obtain ⟨rfl, rfl, rfl⟩ := hcs
    simp only [Prod.mk.injEq] at hx
    simp at hz
    unfold maxLen at hm
    refine ⟨zs.take len, ⟨by simp; omega, hl, by omega, fun n hn => bounds_u8 (hwz n (List.mem_of_mem_take hn)), ?_⟩, Or.inr ⟨_, _, hx.1, by simp [lits]; omega, by simp [lits]; omega⟩⟩
    by_cases h0 : len = 0
    · exact Or.inl h0
    · right
      obtain ⟨b, off, spot⟩ := x
      have hc := hcell 0 (by omega)
      have hspot : spot = none := by simpa [Addr.add] using World.cell?_spot hc
      subst hspot
      refine ⟨b, off, rfl, fun i hi => ?_⟩
      have := hcell i (by omega)
      rw [Addr.add_lit] at this
      rw [this]
      simp [List.getD, hi]

theorem any (a : Option Addr) (len cap : Nat) (l : List Int) (fit : Bool) (z ch : Int) (w : World) (hr : Row w a len cap l) (hlen : len ≤ 140737488351232) :
    Calls Try.prog 5 #[.slice a len cap, .bool fit, .int .i64 z, .int .u8 ch] w fun e w' => e = .returned (.bool true) ∧ Below w.heap.size w w' := by
  have fin : ∀ (e : Ending) w', e = Ending.returned (.bool true) ∧ Keep (fun _ => False) w w' → e = .returned (.bool true) ∧ Below w.heap.size w w' := fun _ _ h => ⟨h.1, h.2.below (Nat.le_refl _) (fun _ e => e.elim)⟩
  have nat : ∀ n : Nat, ¬ z < 0 → ¬ (n : Int) ≤ z → ∃ p : Nat, z = p ∧ p < n := fun n h1 h2 => ⟨z.toNat, by omega, by omega⟩
  cases fit
  · by_cases h1 : z < 0
    · exact (bytes_f_lo a len cap l z ch w hr hlen h1).mono fin
    · by_cases h2 : (len : Int) ≤ z
      · exact (bytes_f_hi a len cap l z ch w hr hlen (by omega) h2).mono fin
      · obtain ⟨p, rfl, hp⟩ := nat len h1 h2
        exact (bytes_f_in a len cap l p ch w hr hlen hp).mono fin
  · by_cases h60 : len < 60
    · by_cases h1 : z < 0
      · exact (bytes_s_lo a len cap l z ch w hr hlen h60 h1).mono fin
      · by_cases h2 : (len : Int) ≤ z
        · exact (bytes_s_hi a len cap l z ch w hr hlen h60 (by omega) h2).mono fin
        · obtain ⟨p, rfl, hp⟩ := nat len h1 h2
          exact (bytes_s_in a len cap l p ch w hr hlen h60 hp).mono fin
    · by_cases h1 : z < 0
      · exact (bytes_t_lo a len cap l z ch w hr hlen (by omega) h1).mono fin
      · by_cases h2 : ((68 : Nat) : Int) ≤ z
        · exact (bytes_t_hi a len cap l z ch w hr hlen (by omega) (by omega) h2).mono fin
        · obtain ⟨p, rfl, hp⟩ := nat 68 h1 h2
          exact (bytes_t_in a len cap l p ch w hr hlen (by omega) hp).mono fin
end Walk

set_option maxRecDepth 100000 in
theorem lifted (os : Os) (started : os.Started) (H : Type) (enc : TypeId × Value → H) :
    ReturnsInHanded {} Try.checked os 5 .any (Rows.tagBytesSpec.pre6 enc Try.prog Try.f5 Rows.tagBytesRow.domain false) (Rows.tagBytesSpec.post enc Try.prog Try.f5 false true false false) := by
  refine returnsInHanded_of_change_sized (C := Try.checked) own started (by kernel_rfl) Try.func5
    (ChangeSpec.witness6 (enc := enc) (C := Try.checked) false ⟨#[], #[.slice none 0 0, .bool false, .int .i64 0, .int .u8 0], []⟩ 8 (by kernel_rfl) (by kernel_rfl) (by kernel_rfl) (by kernel_rfl)) ?_
  intro W base args ds gs before hval0 hW _ hsz0 _
  have hsz : (DataW.weightsEach Try.prog (Try.f5.params.toList ++ Rows.tagBytesSpec.plain.varTypes Try.prog) (ds ++ gs)).all (· ≤ reachBytes) = true := hsz0
  clear hsz0
  have hval : ∀ (j : Nat) t v, Try.f5.params[j]? = some t → args[j]? = some v → Value.okWide Try.prog W .any base t v := hval0
  have hW' := hW
  obtain ⟨p, q, hA0, hV, rfl, hfz, hnd⟩ := hW
  have hA : DataW.TrodAll enc Try.prog W 0 (fun _ => true) true Try.f5.params.toList args.toList ds p := hA0
  rw [Try.params5] at hA hval hsz
  obtain ⟨v0, vs0, d0, ds0, p0, q0, hargs, rfl, rfl, h0, r0⟩ := trodAll_cons hA
  obtain ⟨v1, vs1, d1, ds1, p1, q1, rfl, rfl, rfl, h1, r1⟩ := trodAll_cons r0
  obtain ⟨v2, vs2, d2, ds2, p2, q2, rfl, rfl, rfl, h2, r2⟩ := trodAll_cons r1
  obtain ⟨v3, vs3, d3, ds3, p3, q3, rfl, rfl, rfl, h3, r3⟩ := trodAll_cons r2
  obtain ⟨rfl, rfl, rfl⟩ := trodAll_nil r3
  obtain rfl : args = #[v0, v1, v2, v3] := by cases args; simp_all
  obtain ⟨rfl, rfl⟩ := trodVars_none hV
  obtain ⟨a0, len0, cap0, rfl⟩ := okWide_slice Try.underlying23 (hval 0 23 v0 rfl rfl)
  have k0 := h0
  have lt0 : ∀ x ∈ p0, x.block < W.heap.size := by obtain ⟨m, hm⟩ := k0; exact DataW.trod_lt m _ _ _ hm
  obtain ⟨l0, row0, x0⟩ := Walk.open_bytes h0
  have n0 : len0 ≤ 140737488351232 := by
    rcases x0 with ⟨_, e⟩ | ⟨el, sp, e, e1, e2⟩
    · omega
    · subst e
      have := sized_slice hsz (j := 0) (t := 23) (e := 5) rfl rfl Try.underlying23
      rw [Walk.bytes5] at this
      simp only [reachBytes] at this
      omega
  obtain ⟨a1, rfl, rfl, rfl⟩ := open_bool Try.underlying4 (hval 1 4 v1 rfl rfl) h1
  obtain ⟨a2, rfl, rfl, rfl, w2⟩ := open_int Try.underlying3 (hval 2 3 v2 rfl rfl) h2
  obtain ⟨a3, rfl, rfl, rfl, w3⟩ := open_int Try.underlying5 (hval 3 5 v3 rfl rfl) h3
  clear hA0 hval0
  refine (Walk.any a0 len0 cap0 l0 a1 a2 a3 W row0 n0).mono fun e W' ⟨he, bel⟩ => ?_
  subst he
  exact ⟨_, rfl, _, _, _, [], _, [], hW', trodAll_mk1 (shut_bool Try.underlying4 _), (trodAll_cons_mk (Below.trod laidOut (by kernel_rfl) (of_decide_eq_true (by kernel_rfl)) k0 bel lt0) (trodAll_cons_mk (shut_bool Try.underlying4 _) (trodAll_cons_mk (shut_int Try.underlying3 w2) (trodAll_cons_mk (shut_int Try.underlying5 w3) trodAll_mk0)))), rfl, bel.frame _, fun h => by cases h⟩

theorem over : Rows.tagBytesRow.holds Try.pinned (OpenSpec.ofChange Rows.tagBytesSpec) :=
  OpenClaim.holds_of_wide 5 Try.f5 rfl rfl rfl rfl rfl rfl rfl ⟨rfl, rfl, rfl, rfl, rfl⟩ rfl rfl rfl rfl rfl (by kernel_rfl) Try.func5 (by kernel_rfl)
    (of_decide_eq_true (by kernel_rfl)) (by unfold Func.isWrapper; first | (rw [if_pos (by decide +kernel)]; kernel_rfl) | (rw [if_neg (by decide +kernel)]; exact ⟨rfl, rfl⟩))
    (fun os started H enc _ => lifted os started H enc)

theorem proved : Rows.TagBytesSaid := over
#print axioms proved
end Go.Proofs.Ytgohmjidbbecpaa.tagBytes
