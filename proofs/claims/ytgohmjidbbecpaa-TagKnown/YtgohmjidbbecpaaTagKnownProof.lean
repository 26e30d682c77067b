/-
  Proved: the call of the statement TagKnown returns true, and whatever was in memory reads as before; it takes no argument and bears no condition.
-/
import Derived.Test.YtgohmjidbbecpaaRows
import Derived.Test.YtgohmjidbbecpaaAwake
import Derived.WalkKit
import Derived.ProofKit
import Derived.OpenShut
import Derived.ShutString
import Derived.ChangeOld
import Derived.Below
namespace Go.Proofs.Ytgohmjidbbecpaa.tagKnown
open Go.ChangeShapes Go.WideShapes Go.ChangeAt Go.RowKit
open Go.ChangeMaps (open_string shut_string)
set_option linter.unusedVariables false      -- a walk need not use every 'w<i>' (that an integer argument fits its kind)

theorem own : ownKnob Try.prog.godebug = none := by kernel_rfl

namespace Walk
open Tg Crc
theorem four_eq : pageA 4 (fun _ => 0) (fun _ => 0) = #[Value.int .i64 4, .int .u32 0, .int .u32 0, .int .u32 0, .int .u32 0, .int .u32 0, .int .u32 0, .int .u8 0, .int .u8 0, .int .u8 0, .int .u8 0, .int .u8 0, .int .u8 0, .int .u8 0, .int .u8 0, .int .u8 0, .int .u8 0, .int .u8 0, .int .u8 0, .int .u8 0, .int .u8 0, .int .u8 0, .int .u8 0, .int .u8 0, .int .u8 0, .int .u8 0, .int .u8 0, .int .u8 0, .int .u8 0, .int .u8 0, .int .u8 0, .int .u8 0, .int .u8 0, .int .u8 0, .int .u8 0, .int .u8 0, .int .u8 0, .int .u8 0, .int .u8 0] := by rfl
theorem zero_code : dcode 68 (fun _ => 0) = 9 := by
  unfold dcode
  rw [if_neg (fun h => h rfl), if_neg (by rw [not_clean (i := 0) (by omega) (by decide)]; decide), if_pos (by decide)]
theorem make67 (w : World) : ∃ w', (Instr.makeSlice 23 (.int .i64 67) (.int .i64 67)).run Try.prog w = .ok (.slice (some ⟨w.heap.size, 0, none⟩) 67 67) w' ∧ Blk w' w.heap.size 67 (fun _ => .int .u8 0) ∧ Keep (fun _ => False) w w' :=
  ⟨_, make_bytes 67 (by omega) w, blk_made w 5 67, (Keep.refl _ _).alloc _⟩
theorem zero_row {w : World} {g n : Nat} (h : Blk w g n (fun _ => .int .u8 0)) (hn : n ≤ 68) : Row w (some ⟨g, 0, none⟩) n n (tab n (fun _ => 0)) := by
  have := h.row (d := fun _ => 0) (fun _ => by omega) 0 n n (by omega) (by omega) (by omega)
  simpa using this

/-- A page laid into a new variable. -/
theorem new_page (w : World) (k : Int) (v d : Nat → Int) : ∃ w', (Instr.storeAt 30 (.pointer (some ⟨w.heap.size, 0, none⟩)) (.agg (pageA k v d))).run Try.prog (w.alloc (.cells #[Value.int .i64 0, .int .u32 0, .int .u32 0, .int .u32 0, .int .u32 0, .int .u32 0, .int .u32 0, .int .u8 0, .int .u8 0, .int .u8 0, .int .u8 0, .int .u8 0, .int .u8 0, .int .u8 0, .int .u8 0, .int .u8 0, .int .u8 0, .int .u8 0, .int .u8 0, .int .u8 0, .int .u8 0, .int .u8 0, .int .u8 0, .int .u8 0, .int .u8 0, .int .u8 0, .int .u8 0, .int .u8 0, .int .u8 0, .int .u8 0, .int .u8 0, .int .u8 0, .int .u8 0, .int .u8 0, .int .u8 0, .int .u8 0, .int .u8 0, .int .u8 0, .int .u8 0] 30)) = .ok () w' ∧ Blk w' w.heap.size 39 (pcell k v d) ∧ Keep (fun _ => False) w w' := by
  have hb0 := blk_alloc w _ 30 39 _ (pageA_get 0 (fun _ => 0) (fun _ => 0))
  have hk0 : Keep (fun _ => False) w (w.alloc (.cells (pageA 0 (fun _ => 0) (fun _ => 0)) 30)) := (Keep.refl _ _).alloc _
  rw [show pageA 0 (fun _ => 0) (fun _ => 0) = _ from noPage_eq] at hb0 hk0
  obtain ⟨w3, hst, hb3, hk3⟩ := store_page hb0 k v d
  exact ⟨w3, hst, hb3, hk0.next hk3 (fun x hx e => by omega)⟩

set_option maxHeartbeats 1000000 in
theorem known_walk (w : World) : Calls Try.prog 3 #[] w fun e w' => e = .returned (.bool true) ∧ Below w.heap.size w w' := by
  go_enter Try.func3, Try.ntmps3
  go_wp2_with fail
  refine (awake_any _).mono ?_
  rintro e w1 ⟨rfl, hk1⟩
  have henc := enc_no 4 (fun _ => 0) (fun _ => 0) w1 (by omega)
  rw [four_eq] at henc
  go_wp2_with fail
  refine henc.mono ?_
  rintro e w2 ⟨rfl, hk2⟩
  obtain ⟨w3, hm3, hb3, hk3, _⟩ := make68 w2
  clear henc
  go_wp2_with fail
  have hdec := dec_no (zero_row hb3 (by omega)) (by rw [zero_code]; decide)
  rw [zero_code] at hdec
  refine hdec.mono ?_
  rintro e w4 ⟨rfl, hk4⟩
  clear hm3 hdec
  unfold noPage
  obtain ⟨w5, hst5, _, hk5⟩ := new_page w4 0 (fun _ => 0) (fun _ => 0)
  obtain ⟨w6, hm6, hb6, hk6⟩ := make67 w5
  go_wp2_with (refine wpList_store_run rfl 30 (.tmp 3) (.tmp 17) rfl (by rfl) (by rfl) hst5 ?_)
  have hdec := dec_no (zero_row hb6 (by omega)) (show ¬ dcode 67 (fun _ => 0) = 0 by decide)
  rw [show dcode 67 (fun _ => 0) = 1 from rfl] at hdec
  refine hdec.mono ?_
  rintro e w7 ⟨rfl, hk7⟩
  clear hdec hst5 hm6
  unfold noPage
  obtain ⟨w8, hst8, _, hk8⟩ := new_page w7 0 (fun _ => 0) (fun _ => 0)
  have hcl := clean_any (w := w8) (a := none) (len := 0) (cap := 0) (l := []) ⟨rfl, by omega, by omega, by simp, Or.inl rfl⟩
  rw [show cleanB [] = false from rfl] at hcl
  go_wp2_with (refine wpList_store_run rfl 30 (.tmp 5) (.tmp 22) rfl (by rfl) (by rfl) hst8 ?_)
  refine hcl.mono ?_
  rintro e w9 ⟨rfl, rfl⟩
  clear hst8 hcl
  go_wp2_with fail
  go_ret
  exact ⟨rfl, (((((((hk1.trans hk2).trans hk3).trans hk4).trans hk5).trans hk6).trans hk7).trans hk8).below (Nat.le_refl _) (fun _ e => e.elim)⟩
end Walk

set_option maxRecDepth 100000 in
theorem lifted (os : Os) (started : os.Started) (H : Type) (enc : TypeId × Value → H) :
    ReturnsInHanded {} Try.checked os 3 .any (Rows.tagKnownSpec.pre6 enc Try.prog Try.f3 Rows.tagKnownRow.domain false) (Rows.tagKnownSpec.post enc Try.prog Try.f3 false true false false) := by
  refine returnsInHanded_of_change (C := Try.checked) own started (by kernel_rfl) Try.func3
    (ChangeSpec.witness6 (enc := enc) (C := Try.checked) false ⟨#[], #[], []⟩ 8 (by kernel_rfl) (by kernel_rfl) (by kernel_rfl) (by kernel_rfl)) ?_
  intro W base args ds gs before hval0 hW hcnd _
  have hval : ∀ (j : Nat) t v, Try.f3.params[j]? = some t → args[j]? = some v → Value.okWide Try.prog W .any base t v := hval0
  have hW' := hW
  obtain ⟨p, q, hA0, hV, rfl, hfz, hnd⟩ := hW
  have hA : DataW.TrodAll enc Try.prog W 0 (fun _ => true) true Try.f3.params.toList args.toList ds p := hA0
  rw [Try.params3] at hA hval
  obtain ⟨rfl, rfl, rfl⟩ := trodAll_none hA
  obtain ⟨rfl, rfl⟩ := trodVars_none hV
  clear hA0 hval0
  simp only [List.append_nil] at hW'
  refine (Walk.known_walk W).mono fun e W' ⟨he, bel⟩ => ?_
  subst he
  exact ⟨_, rfl, _, _, _, [], _, [], hW', trodAll_mk1 (shut_bool Try.underlying4 _), trodAll_mk0, rfl, bel.frame _, fun h => by cases h⟩

theorem over : Rows.tagKnownRow.holds Try.pinned (OpenSpec.ofChange Rows.tagKnownSpec) :=
  OpenClaim.holds_of_wide 3 Try.f3 rfl rfl rfl rfl rfl rfl rfl ⟨rfl, rfl, rfl, rfl, rfl⟩ rfl rfl rfl rfl rfl (by kernel_rfl) Try.func3 (by kernel_rfl)
    (of_decide_eq_true (by kernel_rfl)) (by unfold Func.isWrapper; first | (rw [if_pos (by decide +kernel)]; kernel_rfl) | (rw [if_neg (by decide +kernel)]; exact ⟨rfl, rfl⟩))
    (fun os started H enc _ => lifted os started H enc)

theorem proved : Rows.TagKnownSaid :=
  over
#print axioms proved
end Go.Proofs.Ytgohmjidbbecpaa.tagKnown
