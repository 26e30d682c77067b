/-
  Changes made whole or not at all; maps held against each other.
-/
import Derived.Test.YtkddonmddgfpnabSpF
namespace Go.Proofs.Ytkddonmddgfpnab
open Go.ChangeShapes Go.WideShapes Go.ChangeAt Go.RowKit
namespace Tg

/-- What Apply leaves: all of the changes or none, and the code. -/
def Apd (W w : World) (fl : Bool) (q : Nat) (S T : Nat → Prop) (N C : Nat) (l : List Rn) (t : List Int) (e : Ending) (w' : World) : Prop :=
  e = .returned (.int .i64 (runL N l t).2) ∧ Sp W w' fl q S T N C (allL N l t) ∧ Keep S w w'
set_option maxRecDepth 100000 in
set_option maxHeartbeats 1000000 in
/-- At most one change: done, or refused and nothing changed. -/
theorem do_one {W w : World} {fl : Bool} {q N C : Nat} {S T : Nat → Prop} {t : List Int} (h : Sp W w fl q S T N C t) {a : Option Addr} {cap : Nat} {l : List Rn} (hR : Rz w a cap l) (hf : Fits l) (hg : ∀ g o, a = some ⟨g, o, none⟩ → l ≠ [] → ¬ S g) (hlen : l.length ≤ 1) :
    Calls Try.prog 37 #[mapV fl q, .slice a l.length cap] w (Apd W w fl q S T N C l t) := by
  have hlc := hR.1
  have hlc2 := hR.2.1
  have hch := fun (w1 : World) (u : List Int) (x : Rn) (h1 : Sp W w1 fl q S T N C u) (hx : x.lba ≤ 9223372036854775807) => change_any h1 (x := x) hx
  unfold Apd
  unfold Chd at hch
  obtain ⟨mv, hmv⟩ : ∃ mv, mv = mapV fl q := ⟨_, rfl⟩
  rw [← hmv] at hch ⊢
  clear hmv
  have hsame : ∀ (wx : World), Keep S w wx → Rz wx a cap l := fun wx k => hR.keep k hg
  have hend : l.take l.length = l := List.take_length
  have hall : (runL N l t).2 = 0 → allL N l t = (runL N l t).1 := fun e => by unfold allL; rw [if_pos e]
  have hall' : Hid ((runL N l t).2 = 0 → allL N l t = (runL N l t).1) := hall
  have h0 : Sp W w fl q S T N C (runL N (l.take 0) t).1 ∧ (runL N (l.take 0) t).2 = 0 ∧ Keep S w w := by
    rw [List.take_zero]; exact ⟨h, rfl, Keep.refl _ _⟩
  have hlen' : Hid (l.length ≤ 1) := hlen
  clear h hg hR hlen hall
  go_enter Try.func37, Try.ntmps37
  go_wp2_with fail
  go_loopw [10] (fun v wx => ∃ i : Nat, i ≤ l.length ∧ v = .int .i64 (i : Int) ∧ Sp W wx fl q S T N C (runL N (l.take i) t).1 ∧ (runL N (l.take i) t).2 = 0 ∧ Keep S w wx) (fun v _ => l.length - (intOf v).toNat)
  case atStart => exact ⟨0, by omega, rfl, h0⟩
  case round =>
    clear h0
    obtain ⟨i, hi, rfl, M1, z1, k1⟩ := hrel
    by_cases hlt : i < l.length
    · obtain ⟨x, hx⟩ := get_rn hlt
      obtain ⟨g, o, rfl, c0, c1, c2⟩ := (hsame wr k1).at hx
      have hfx := hf x (List.mem_of_getElem? hx)
      have K2 : Keep (fun _ => False) wr (wr.alloc (.cells #[.int .i64 x.lba, .int .i64 x.len, .int .i64 x.phys] 51)) := (Keep.refl _ _).alloc _
      have c := hch _ _ x (M1.more K2) hfx.1.2
      have hbad : ¬ (stepL N (runL N (l.take i) t).1 x).2 = 0 → (runL N l t).2 = (stepL N (runL N (l.take i) t).1 x).2 := fun hz => by
        have := runL_bad (b := l.drop (i + 1)) z1 hz
        rwa [← take_rest hx] at this
      have hbad2 : ¬ (stepL N (runL N (l.take i) t).1 x).2 = 0 → (stepL N (runL N (l.take i) t).1 x).1 = allL N l t := fun hz => by
        have i0 : i = 0 := by have : l.length ≤ 1 := hlen'; omega
        have hb := hbad hz
        subst i0
        rw [stepL_keep hz]
        unfold allL
        rw [if_neg (by rw [hb]; exact hz)]
        simp [List.take_zero, runL]
      have hgood : (stepL N (runL N (l.take i) t).1 x).2 = 0 → runL N (l.take (i + 1)) t = ((stepL N (runL N (l.take i) t).1 x).1, 0) := fun hz => by
        rw [take_more hx]; exact runL_good z1 hz
      have di : (i : Int) < (l.length : Int) := by omega
      have dw := wrapI (x := (i : Int) + 1) (by omega) (by omega)
      have hlt' : Hid (i < l.length) := hlt
      have k2 : Keep S w (wr.alloc (.cells #[.int .i64 x.lba, .int .i64 x.len, .int .i64 x.phys] 51)) := k1.trans (K2.mono (fun _ _ e => e.elim))
      clear hlt hf hch hsame hend M1 K2 hfx k1 z1
      generalize stepL N (runL N (l.take i) t).1 x = y at c hbad hbad2 hgood
      by_cases hy : y.2 = 0
      · have hyb : (y.2 == 0) = true := by simp [hy]
        have hn := hgood hy
        rw [hy] at c
        have hn' : Hid (runL N (l.take (i + 1)) t = (y.1, 0)) := hn
        clear hbad hbad2 hgood hyb hn hy
        go_wp2_with (go_at_call 46; refine c.mono ?_; rintro e w3 ⟨rfl, M3, k3⟩)
        go_roundw
        case rel => exact ⟨i + 1, hlt', by go_num, by rw [show runL N (l.take (i + 1)) t = (y.1, 0) from hn']; exact M3, by rw [show runL N (l.take (i + 1)) t = (y.1, 0) from hn'], k2.trans k3⟩
        case measure => have : i < l.length := hlt'; simp [intOf]; omega
      · have hyb : (y.2 == 0) = false := by simp [hy]
        have hn' : Hid ((runL N l t).2 = y.2) := hbad hy
        have hn2' : Hid (y.1 = allL N l t) := hbad2 hy
        clear hbad hbad2 hgood hy
        go_wp2_with (go_at_call 46; refine c.mono ?_; rintro e w3 ⟨rfl, M3, k3⟩)
        go_ret
        exact ⟨by rw [show (runL N l t).2 = y.2 from hn']; rfl, by rw [← show y.1 = allL N l t from hn2']; exact M3, k2.trans k3⟩
    · have di : ¬ (i : Int) < (l.length : Int) := by omega
      have ei : i = l.length := by omega
      rw [ei, hend] at M1 z1
      have z1' : Hid ((runL N l t).2 = 0) := z1
      clear hlt ei hch hsame hend z1
      go_wp2_with fail
      go_ret
      exact ⟨by rw [show (runL N l t).2 = 0 from z1']; rfl, by rw [show (runL N l t).2 = 0 → allL N l t = (runL N l t).1 from hall'] <;> first | exact M1 | exact z1', k1⟩
set_option maxRecDepth 100000 in
set_option maxHeartbeats 1000000 in
theorem apply_any {W w : World} {fl : Bool} {q N C : Nat} {S T : Nat → Prop} {t : List Int} (h : Sp W w fl q S T N C t) {a : Option Addr} {cap : Nat} {l : List Rn} (hR : Rz w a cap l) (hf : Fits l) (hg : ∀ g o, a = some ⟨g, o, none⟩ → l ≠ [] → ¬ S g) :
    Calls Try.prog 18 #[mapV fl q, .slice a l.length cap] w (Apd W w fl q S T N C l t) := by
  have hk := kindOf_any fl q w
  have hc := copyOf_any h
  have hd1 := fun (w1 : World) (q' : Nat) (S' : Nat → Prop) (M : Sp w w1 false q' S' (fun _ => False) N C t) => do_any M (hR.more M.keep) hf (fun g o e hne => by
    subst e
    have := hR.block hne
    exact fun hs => by have := (M.sw g hs).1; omega)
  have hd2 := fun (w1 : World) (k : Keep (fun _ => False) w w1) => do_any (h.more k) (hR.more k) hf hg
  have hd3 := fun (hl : l.length ≤ 1) => do_one h hR hf hg hl
  unfold Did2 at hd1 hd2
  unfold Apd at hd3 ⊢
  have hno := fun (w1 : World) (k : Keep (fun _ => False) w w1) => h.more k
  obtain ⟨mv, hmv⟩ : ∃ mv, mv = mapV fl q := ⟨_, rfl⟩
  rw [← hmv] at hk hc hd2 hd3 ⊢
  have hkv : (binOp .eql 9 (kindV fl) (.string ⟨#[111, 116, 104, 101, 114]⟩)).run Try.prog w = .ok (.bool false) w := by cases fl <;> kernel_rfl
  have hkg : (eqGuard .eql 9 (.tmp 7) (.const (.string ⟨#[111, 116, 104, 101, 114]⟩)) (kindV fl) (.string ⟨#[111, 116, 104, 101, 114]⟩)).run Try.prog w = .ok () w := by cases fl <;> kernel_rfl
  generalize kindV fl = kv at hk hkv hkg
  have hlc := hR.1
  have hlc2 := hR.2.1
  clear hmv hR hf hg h
  by_cases hl1 : l.length ≤ 1
  · have dl : ¬ (1 : Int) < (l.length : Int) := by omega
    have dl2 : ¬ 1 < l.length := by omega
    have d3 := hd3 hl1
    clear hd1 hd2 hd3 hno hc hl1
    generalize runL N l t = y at d3 ⊢
    go_enter Try.func18, Try.ntmps18
    go_wp2_with ((go_at_call 35; refine hk.mono ?_; rintro e w1 ⟨rfl, e1⟩; have e1 := e1.symm; subst e1))
    refine d3.mono ?_
    rintro e w3 ⟨rfl, M3, k3⟩
    clear d3
    go_wp2_with fail
    go_ret
    exact ⟨rfl, M3, k3⟩
  have dl : (1 : Int) < (l.length : Int) := by omega
  have dl2 : 1 < l.length := by omega
  clear hl1 hd3
  unfold allL
  generalize runL N l t = y at hd1 hd2 ⊢
  by_cases hz : y.2 = 0
  · rw [hz] at hd1 hd2
    rw [if_pos hz, hz]
    clear hz
    go_enter Try.func18, Try.ntmps18
    go_wp2_with (first | (go_at_call 35; refine hk.mono ?_; rintro e w1 ⟨rfl, e1⟩; have e1 := e1.symm; subst e1) | (go_at_call 38; refine hc.mono ?_; rintro e w1 ⟨q', S', rfl, M1⟩))
    have d1 := hd1 w1 q' S' M1
    clear hk hc hd1 hkv
    go_wp2_with fail
    refine d1.mono ?_
    rintro e w2 ⟨rfl, ⟨u, M2, -⟩, k2⟩
    have d2 := hd2 w2 M2.keep
    clear d1 hd2
    go_wp2_with fail
    refine d2.mono ?_
    rintro e w3 ⟨rfl, ⟨u3, M3, e3⟩, k3⟩
    have e3 := e3 trivial
    subst e3
    have HK := (M2.keep.mono (fun _ _ e => e.elim)).trans k3
    clear d2 M1 M2
    go_wp2_with fail
    go_ret
    exact ⟨rfl, M3, HK⟩
  · rw [if_neg hz]
    have hzb : (y.2 == 0) = false := by simp [hz]
    clear hz hd2
    go_enter Try.func18, Try.ntmps18
    go_wp2_with (first | (go_at_call 35; refine hk.mono ?_; rintro e w1 ⟨rfl, e1⟩; have e1 := e1.symm; subst e1) | (go_at_call 38; refine hc.mono ?_; rintro e w1 ⟨q', S', rfl, M1⟩))
    have d1 := hd1 w1 q' S' M1
    clear hk hc hd1 hkv
    go_wp2_with fail
    refine d1.mono ?_
    rintro e w2 ⟨rfl, ⟨u, M2, -⟩, k2⟩
    have N2 := hno w2 M2.keep
    have K2 := M2.keep
    clear d1 hno M1 M2
    go_wp2_with fail
    go_ret
    exact ⟨rfl, N2, K2.mono (fun _ _ e => e.elim)⟩
end Tg
end Go.Proofs.Ytkddonmddgfpnab
