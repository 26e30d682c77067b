/-
  Changes made whole or not at all; maps held against each other.
-/
import Derived.Test.YtnhlkjgpacjhcaaSpF
namespace Go.Proofs.Ytnhlkjgpacjhcaa
open Go.ChangeShapes Go.WideShapes Go.ChangeAt Go.RowKit
namespace Tg

/-- What Apply leaves: all of the changes or none, and the code. -/
def Apd (W w : World) (fl : Bool) (q : Nat) (S T : Nat → Prop) (N C : Nat) (l : List Rn) (t : List Int) (e : Ending) (w' : World) : Prop :=
  e = .returned (.int .i64 (runL N l t).2) ∧ Sp W w' fl q S T N C (allL N l t) ∧ Keep S w w'
set_option maxRecDepth 100000 in
set_option maxHeartbeats 1000000 in
theorem apply_any {W w : World} {fl : Bool} {q N C : Nat} {S T : Nat → Prop} {t : List Int} (h : Sp W w fl q S T N C t) {a : Option Addr} {cap : Nat} {l : List Rn} (hR : Rz w a cap l) (hf : Fits l) (hg : ∀ g o, a = some ⟨g, o, none⟩ → l ≠ [] → ¬ S g) :
    Calls Try.prog 18 #[mapV fl q, .slice a l.length cap] w (Apd W w fl q S T N C l t) := by
  have hk := kindOf_any fl q w
  have hc := copyOf_any h
  have hd1 := fun (w1 : World) (q' : Nat) (S' : Nat → Prop) (M : Sp w w1 false q' S' (fun _ => False) N C t) => do_any M (hR.more M.keep) hf (fun g o e hne => by
    subst e
    have := hR.block hne
    exact fun hs => by have := (M.sw g hs).1; omega)
  have hd2 := fun (w1 : World) (k : Keep (fun _ => False) w w1) => do_any (h.more k) (hR.more k) hf hg
  unfold Did2 at hd1 hd2
  unfold Apd allL
  have hno := fun (w1 : World) (k : Keep (fun _ => False) w w1) => h.more k
  obtain ⟨mv, hmv⟩ : ∃ mv, mv = mapV fl q := ⟨_, rfl⟩
  rw [← hmv] at hk hc hd2 ⊢
  have hkv : (binOp .eql 9 (kindV fl) (.string ⟨#[111, 116, 104, 101, 114]⟩)).run Try.prog w = .ok (.bool false) w := by cases fl <;> kernel_rfl
  have hkg : (eqGuard .eql 9 (.tmp 7) (.const (.string ⟨#[111, 116, 104, 101, 114]⟩)) (kindV fl) (.string ⟨#[111, 116, 104, 101, 114]⟩)).run Try.prog w = .ok () w := by cases fl <;> kernel_rfl
  generalize kindV fl = kv at hk hkv hkg
  clear hmv hR hf hg h
  generalize runL N l t = y at hd1 hd2 ⊢
  by_cases hz : y.2 = 0
  · rw [hz] at hd1 hd2
    rw [if_pos hz, hz]
    clear hz
    go_enter Try.func18, Try.ntmps18
    go_wp2_with (first | (go_at_call 35; refine hk.mono ?_; rintro e w1 ⟨rfl, e1⟩; have e1 := e1.symm; subst e1) | (go_at_call 38; refine hc.mono ?_; rintro e w1 ⟨q', S', rfl, M1⟩))
    have d1 := hd1 w1 q' S' M1
    clear hk hc hd1 hkv
    go_wp2_with fail
    refine d1.mono ?_
    rintro e w2 ⟨rfl, ⟨u, M2, -⟩, k2⟩
    have d2 := hd2 w2 M2.keep
    clear d1 hd2
    go_wp2_with fail
    refine d2.mono ?_
    rintro e w3 ⟨rfl, ⟨u3, M3, e3⟩, k3⟩
    have e3 := e3 trivial
    subst e3
    have HK := (M2.keep.mono (fun _ _ e => e.elim)).trans k3
    clear d2 M1 M2
    go_wp2_with fail
    go_ret
    exact ⟨rfl, M3, HK⟩
  · rw [if_neg hz]
    have hzb : (y.2 == 0) = false := by simp [hz]
    clear hz hd2
    go_enter Try.func18, Try.ntmps18
    go_wp2_with (first | (go_at_call 35; refine hk.mono ?_; rintro e w1 ⟨rfl, e1⟩; have e1 := e1.symm; subst e1) | (go_at_call 38; refine hc.mono ?_; rintro e w1 ⟨q', S', rfl, M1⟩))
    have d1 := hd1 w1 q' S' M1
    clear hk hc hd1 hkv
    go_wp2_with fail
    refine d1.mono ?_
    rintro e w2 ⟨rfl, ⟨u, M2, -⟩, k2⟩
    have N2 := hno w2 M2.keep
    have K2 := M2.keep
    clear d1 hno M1 M2
    go_wp2_with fail
    go_ret
    exact ⟨rfl, N2, K2.mono (fun _ _ e => e.elim)⟩
end Tg
end Go.Proofs.Ytnhlkjgpacjhcaa
