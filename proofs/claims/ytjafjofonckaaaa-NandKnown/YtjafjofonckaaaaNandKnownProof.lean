/-
  Proved: the call of the statement NandKnown returns true, and whatever was in memory reads as before; it takes no argument and bears no condition.
-/
import Derived.Test.YtjafjofonckaaaaRows
import Derived.Test.YtjafjofonckaaaaAwake
import Derived.WalkKit
import Derived.ProofKit
import Derived.OpenShut
import Derived.ShutString
import Derived.ChangeOld
import Derived.Below
namespace Go.Proofs.Ytjafjofonckaaaa.nandKnown
open Go.ChangeShapes Go.WideShapes Go.ChangeAt Go.RowKit
open Go.ChangeMaps (open_string shut_string)
set_option linter.unusedVariables false      -- a walk need not use every 'w<i>' (that an integer argument fits its kind)

theorem own : ownKnob Try.prog.godebug = none := by kernel_rfl

open Nd

def k2 : Fl := a1.setCut 1
def k3 : Fl := (k2.erase 0).2
def k4 : Fl := k3.turnOn
def k5 : Fl := k4.readOne
def k6 : Fl := (k5.erase 0).2
def k7 : Fl := (k6.program 0 0 sev).2
theorem okk2 : k2.Ok 1 := ok1.setCut (by omega)
theorem okk3 : k3.Ok 2 := okk2.erase 0
theorem okk4 : k4.Ok 2 := okk3.turnOn
theorem okk5 : k5.Ok 3 := okk4.readOne
theorem okk6 : k6.Ok 4 := okk5.erase 0
theorem okk7 : k7.Ok 5 := okk6.program (j := 0) (by decide +kernel) sev_byte
theorem q3 : (k2.erase 0).1 = 7 := by decide +kernel
theorem on4 : k4.on = true := rfl
theorem z4 : k4.cell 0 = 0 ∧ k4.cell 67 = 0 := by decide +kernel
theorem q5 : (k5.program 0 0 sev).1 = 8 := by decide +kernel
theorem q6 : (k5.erase 0).1 = 0 := by decide +kernel
theorem q7 : (k6.program 0 0 sev).1 = 0 := by decide +kernel
theorem q5' : (k5.program 0 0 sev).2 = k5 := by
  unfold Fl.program
  rw [if_neg (by decide +kernel), if_neg (by decide +kernel), if_pos (by decide +kernel)]

theorem new_page' {w wr : World} {p c k N : Nat} {s : Fl} (F : Fs w p c k s wr) (ok : s.Ok N) (v : Int) :
    Calls Try.prog 11 #[.int .u8 v] wr fun e w' => e = .returned (.slice (some ⟨wr.heap.size, 0, none⟩) 68 68) ∧ Fs w p c k s w' ∧ Blk w' wr.heap.size 68 (fun _ => .int .u8 v) ∧ ¬ Own p c k wr.heap.size ∧ Keep (fun _ => False) wr w' := by
  obtain ⟨l1, l2, l3⟩ := F.lt ok.b1 ok.p1
  refine (page_any v).mono ?_
  rintro e w' ⟨rfl, hb, hk⟩
  exact ⟨rfl, F.aside hk, hb, fun e => by rcases e with e | e | e <;> omega, hk⟩

theorem prog_page' {w wr : World} {p c k N : Nat} {s t : Fl} {d : Nat → Int} (F : Fs w p c k s wr) (ok : s.Ok N) (hN : N ≤ 1000000) {b j pg r g : Nat} (hb : b < s.B) (hj : j < s.P) (hpg : pg = b * s.P + j) (hd : ∀ i, 0 ≤ d i ∧ d i ≤ 255)
    (hr : Blk wr g 68 (fun i => .int .u8 (d i))) (hg : ¬ Own p c k g) (h1 : (s.program b j d).1 = r) (h2 : (s.program b j d).2 = t) :
    Calls Try.prog 10 #[.pointer (some ⟨p, 0, none⟩), .int .i64 pg, .slice (some ⟨g, 0, none⟩) 68 68] wr fun e w' => e = .returned (.int .i64 r) ∧ Fs w p c k t w' ∧ Keep (Own p c k) wr w' := by
  refine (program_any F.mem ok hN hb hj hpg hd hr hg (Nat.le_refl _) (by omega)).mono ?_
  rintro e w' ⟨rfl, hm, hk⟩
  subst h1 h2
  exact ⟨rfl, F.own hm hk, hk⟩

set_option maxHeartbeats 1000000 in
theorem walk (w : World) :
    Calls Try.prog 3 #[] w fun e w' => e = .returned (.bool true) ∧ Below w.heap.size w w' := by
  go_enter Try.func3, Try.ntmps3
  go_wp2_with fail
  refine (awake_any w).mono ?_
  rintro e w1 ⟨rfl, k1⟩
  go_wp2_with fail
  refine (new_no (B := 0) (P := 4) (by omega)).mono ?_
  rintro e w2 ⟨rfl, rfl⟩
  go_wp2_with fail
  refine (new_no (B := 2) (P := 33) (by omega)).mono ?_
  rintro e w3 ⟨rfl, rfl⟩
  go_wp2_with fail
  refine (new_any (B := 2) (P := 4) (by omega) (by omega) (by omega) (by omega)).mono ?_
  rintro e w4 ⟨p, c, k, rfl, m0, hp, hc, hk, K0⟩
  have hsz := k1.size
  have F0 : Fs w p c k a0 w4 := ⟨m0, k1.trans K0, by omega, by omega, by omega⟩
  clear m0 K0 hp hc hk k1 hsz
  go_wp2_with fail
  refine (new_page F0 ok0 7).mono ?_
  rintro e w5 ⟨rfl, F5, hb5, ho5⟩
  go_wp2_with fail
  refine (prog_page F5 ok0 (by omega) (b := 0) (j := 0) (pg := 0) (r := 0) (t := a1) (by decide) (by decide) rfl sev_byte hb5 ho5 r1 rfl).mono ?_
  rintro e w6 ⟨rfl, F6⟩
  clear F0 F5 hb5 ho5
  go_wp2_with fail
  refine (cut_any F6.mem 1).mono ?_
  rintro e w7 ⟨rfl, m7, k7'⟩
  have F7 : Fs w p c k k2 w7 := F6.own m7 k7'
  clear F6 m7 k7'
  go_wp2_with fail
  refine (erase_any F7.mem okk2 (by omega) (b := 0) (by decide +kernel)).mono ?_
  rintro e w8 ⟨rfl, m8, k8⟩
  have F8 : Fs w p c k k3 w8 := F7.own m8 k8
  rw [q3]
  clear F7 m8 k8
  go_wp2_with fail
  refine (on_any F8.mem).mono ?_
  rintro e w9 ⟨rfl, m9, k9⟩
  have F9 : Fs w p c k k4 w9 := F8.own m9 k9
  clear F8 m9 k9
  go_wp2_with fail
  refine (read_any F9.mem okk4 (by omega) (pg := 0) (by decide +kernel) on4).mono ?_
  rintro e w10 ⟨g, cap, rfl, hg, hrow, hf, m10, k10⟩
  have F10 : Fs w p c k k5 w10 := F9.own m10 k10
  obtain ⟨l1, l2, l3⟩ := F9.lt okk4.b1 okk4.p1
  have hgo : ¬ Own p c k g := fun e => by rcases e with e | e | e <;> omega
  have hB := hrow.blk hf
  clear F9 m10 k10 l1 l2 l3 hrow hf hg
  go_wp2_with fail
  refine (new_page' F10 okk5 7).mono ?_
  rintro e w11 ⟨rfl, F11, hb11, ho11, k11⟩
  have hB := hB.keep k11 (fun e => e)
  clear F10 k11
  go_wp2_with fail
  refine (prog_page' F11 okk5 (by omega) (b := 0) (j := 0) (pg := 0) (r := 8) (t := k5) (by decide +kernel) (by decide +kernel) (by decide +kernel) sev_byte hb11 ho11 q5 q5').mono ?_
  rintro e w12 ⟨rfl, F12, k12⟩
  have hB := hB.keep k12 hgo
  clear F11 hb11 ho11 k12
  go_wp2_with fail
  refine (erase_any F12.mem okk5 (by omega) (b := 0) (by decide +kernel)).mono ?_
  rintro e w13 ⟨rfl, m13, k13⟩
  have F13 : Fs w p c k k6 w13 := F12.own m13 k13
  have hB := hB.keep k13 hgo
  rw [q6]
  clear F12 m13 k13
  go_wp2_with fail
  refine (new_page' F13 okk6 7).mono ?_
  rintro e w14 ⟨rfl, F14, hb14, ho14, k14⟩
  have hB := hB.keep k14 (fun e => e)
  clear F13 k14
  go_wp2_with fail
  refine (prog_page' F14 okk6 (by omega) (b := 0) (j := 0) (pg := 0) (r := 0) (t := k7) (by decide +kernel) (by decide +kernel) (by decide +kernel) sev_byte hb14 ho14 q7 rfl).mono ?_
  rintro e w15 ⟨rfl, F15, k15⟩
  have hB := hB.keep k15 hgo
  clear F14 hb14 ho14 k15
  go_wp2_with fail
  refine (new_page' F15 okk7 7).mono ?_
  rintro e w16 ⟨rfl, F16, hb16, ho16, k16⟩
  have hB := hB.keep k16 (fun e => e)
  clear F15 k16
  go_wp2_with fail
  refine (program_no (n := 8) F16.mem okk7 (Or.inr (Or.inl (by decide +kernel)))).mono ?_
  rintro e w17 ⟨rfl, m17, k17⟩
  have F17 : Fs w p c k k7 w17 := F16.own m17 k17
  have hB := hB.keep k17 hgo
  have c0 := (hB 0 (by omega)).1
  have c67 := (hB 67 (by omega)).1
  have z0 : w17.cell? ⟨g, 0, none⟩ = some (.int .u8 0) := by rw [c0]; show some (Value.int .u8 (k4.cell 0)) = _; rw [z4.1]
  have z67 : w17.cell? ⟨g, 67, none⟩ = some (.int .u8 0) := by rw [c67]; show some (Value.int .u8 (k4.cell 67)) = _; rw [z4.2]
  clear c0 c67
  clear F16 m17 k17 hB
  go_wp2_with fail
  go_ret
  exact ⟨rfl, F17.keep.below (Nat.le_refl _) (fun _ e => e.elim)⟩

set_option maxRecDepth 100000 in
theorem lifted (os : Os) (started : os.Started) (H : Type) (enc : TypeId × Value → H) :
    ReturnsInHanded {} Try.checked os 3 .any (Rows.nandKnownSpec.pre6 enc Try.prog Try.f3 Rows.nandKnownRow.domain false) (Rows.nandKnownSpec.post enc Try.prog Try.f3 false true false false) := by
  refine returnsInHanded_of_change (C := Try.checked) own started (by kernel_rfl) Try.func3
    (ChangeSpec.witness6 (enc := enc) (C := Try.checked) false ⟨#[], #[], []⟩ 8 (by kernel_rfl) (by kernel_rfl) (by kernel_rfl) (by kernel_rfl)) ?_
  intro W base args ds gs before hval0 hW hcnd _
  have hval : ∀ (j : Nat) t v, Try.f3.params[j]? = some t → args[j]? = some v → Value.okWide Try.prog W .any base t v := hval0
  have hW' := hW
  obtain ⟨p, q, hA0, hV, rfl, hfz, hnd⟩ := hW
  have hA : DataW.TrodAll enc Try.prog W 0 (fun _ => true) true Try.f3.params.toList args.toList ds p := hA0
  rw [Try.params3] at hA hval
  obtain ⟨rfl, rfl, rfl⟩ := trodAll_none hA
  obtain ⟨rfl, rfl⟩ := trodVars_none hV
  clear hA0 hval0
  simp only [List.append_nil] at hW'
  refine (walk W).mono fun e W' ⟨he, bel⟩ => ?_
  subst he
  exact ⟨_, rfl, _, _, _, [], _, [], hW', trodAll_mk1 (shut_bool Try.underlying4 _), trodAll_mk0, rfl, bel.frame _, fun h => by cases h⟩

theorem over : Rows.nandKnownRow.holds Try.pinned (OpenSpec.ofChange Rows.nandKnownSpec) :=
  OpenClaim.holds_of_wide 3 Try.f3 rfl rfl rfl rfl rfl rfl rfl ⟨rfl, rfl, rfl, rfl, rfl⟩ rfl rfl rfl rfl rfl (by kernel_rfl) Try.func3 (by kernel_rfl)
    (of_decide_eq_true (by kernel_rfl)) (by unfold Func.isWrapper; first | (rw [if_pos (by decide +kernel)]; kernel_rfl) | (rw [if_neg (by decide +kernel)]; exact ⟨rfl, rfl⟩))
    (fun os started H enc _ => lifted os started H enc)

theorem proved : Rows.NandKnownSaid :=
  over
#print axioms proved
end Go.Proofs.Ytjafjofonckaaaa.nandKnown
