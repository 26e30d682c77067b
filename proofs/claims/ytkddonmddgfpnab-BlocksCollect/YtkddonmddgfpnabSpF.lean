/-
  A copy of a map; changes made whole or not at all; maps held against each other.
-/
import Derived.Test.YtkddonmddgfpnabSpE
namespace Go.Proofs.Ytkddonmddgfpnab
open Go.ChangeShapes Go.WideShapes Go.ChangeAt Go.RowKit
namespace Tg

theorem Sp.rok {W w : World} {fl : Bool} {q N C : Nat} {S T : Nat → Prop} {t : List Int} (h : Sp W w fl q S T N C t) : ∀ x ∈ refR t C, Rok x := fun x hx => by
  have htl := h.tl
  subst htl
  have ho := refR_of t
  have h1 := ho.1.1 x hx
  have h2 := run_low h.low ho hx
  have h3 := h.cap2
  unfold Rn.Ok at h1
  unfold Rn.fin at h2
  unfold Rok
  omega
set_option maxRecDepth 100000 in
set_option maxHeartbeats 1000000 in
theorem copyOf_any {W w : World} {fl : Bool} {q N C : Nat} {S T : Nat → Prop} {t : List Int} (h : Sp W w fl q S T N C t) :
    Calls Try.prog 38 #[mapV fl q] w fun e w' => ∃ q' S', e = .returned (mapV false q') ∧ Sp w w' false q' S' (fun _ => False) N C t := by
  have hc := h.cap
  have hmo := h.most
  have hn := newS false (w := w) h.cap1 h.cap2 h.N1 h.N2
  have hr := fun w1 (k : Keep (fun _ => False) w w1) => (h.more k).runs
  have hrk := h.rok
  have hl := h.len512
  have hall := lay_all h.cap2 h.tl h.tab h.low h.len
  have hlay := fun (w2 : World) (q' : Nat) (S' : Nat → Prop) (M : Sp w w2 false q' S' (fun _ => False) N C (List.replicate C (-1))) (a : Option Addr) (c : Nat) (R : Rs w2 a c (refR t C)) (hg : ∀ g, a = some ⟨g, 0, none⟩ → ¬ S' g) => layS M R.rz hrk hl (fun g o e hne => by
    obtain ⟨g', e2, -⟩ := R.2.2.resolve_left hne
    rw [e] at e2; injection e2 with e2; injection e2 with e2 e3; subst e2; subst e3; exact hg g e)
  rw [hall] at hlay
  generalize refR t C = m at hr hlay hl
  clear hrk hall h
  cases fl with
  | false =>
    unfold fCap at hc
    unfold fMost at hmo
    unfold fRuns at hr
    unfold mapV at hn hlay ⊢
    have m1 := mCapacity44 q
    have m2 := mMost44 q
    have m3 := mRuns44 q
    go_enter Try.func38, Try.ntmps38
    go_upto_region 2 with (first | (go_at_call 82; refine hc.mono ?_; rintro e w1 ⟨rfl, e1⟩; have e1 := e1.symm; subst e1) | (go_at_call 86; refine hmo.mono ?_; rintro e w1 ⟨rfl, e1⟩; have e1 := e1.symm; subst e1) | (go_at_call 17; refine hn.mono ?_; rintro e w1 ⟨q', S', rfl, M1⟩))
    have c1 := hr w1 M1.keep
    clear hc hmo hn hr
    go_wp2_with fail
    refine c1.mono ?_
    rintro e w2 ⟨a, c, rfl, R, k2, hg⟩
    have c2 := hlay w2 q' S' (M1.more k2) a c R (fun g e hs => by have := hg g e; have := (M1.sw g hs).2.1; omega)
    clear c1 hlay
    go_wp2_with fail
    refine c2.mono ?_
    rintro e w3 ⟨⟨v, rfl⟩, M3, k3⟩
    go_wp2_with fail
    go_ret
    exact ⟨q', S', rfl, M3⟩
  | true =>
    unfold fCap at hc
    unfold fMost at hmo
    unfold fRuns at hr
    unfold mapV at hn hlay ⊢
    have m1 := mCapacity47 q
    have m2 := mMost47 q
    have m3 := mRuns47 q
    go_enter Try.func38, Try.ntmps38
    go_upto_region 2 with (first | (go_at_call 67; refine hc.mono ?_; rintro e w1 ⟨rfl, e1⟩; have e1 := e1.symm; subst e1) | (go_at_call 71; refine hmo.mono ?_; rintro e w1 ⟨rfl, e1⟩; have e1 := e1.symm; subst e1) | (go_at_call 17; refine hn.mono ?_; rintro e w1 ⟨q', S', rfl, M1⟩))
    have c1 := hr w1 M1.keep
    clear hc hmo hn hr
    go_wp2_with fail
    refine c1.mono ?_
    rintro e w2 ⟨a, c, rfl, R, k2, hg⟩
    have c2 := hlay w2 q' S' (M1.more k2) a c R (fun g e hs => by have := hg g e; have := (M1.sw g hs).2.1; omega)
    clear c1 hlay
    go_wp2_with fail
    refine c2.mono ?_
    rintro e w3 ⟨⟨v, rfl⟩, M3, k3⟩
    go_wp2_with fail
    go_ret
    exact ⟨q', S', rfl, M3⟩
end Tg
end Go.Proofs.Ytkddonmddgfpnab
