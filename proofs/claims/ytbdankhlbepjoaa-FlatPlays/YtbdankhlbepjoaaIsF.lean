/-
  What the statement's table and is answer of a flat map beside the document's own list of pages.
-/
import Derived.Test.YtbdankhlbepjoaaAwF
namespace Go.Proofs.Ytbdankhlbepjoaa
open Go.ChangeShapes Go.WideShapes Go.ChangeAt Go.RowKit
namespace Tg

/-- The first i entries spoilt. -/
def spoil (t : List Int) : Nat → List Int
  | 0 => t
  | i + 1 => (spoil t i).set i 99
theorem spoil_len (t : List Int) : ∀ i, (spoil t i).length = t.length
  | 0 => rfl
  | i + 1 => by rw [spoil, List.length_set, spoil_len t i]
theorem spoil_at (t : List Int) : ∀ i j, i ≤ j → (spoil t i).getD j (-1) = t.getD j (-1)
  | 0, _, _ => rfl
  | i + 1, j, h => by
    rw [spoil, List.getD_eq_getElem?_getD, List.getElem?_set, if_neg (by omega), ← List.getD_eq_getElem?_getD]
    exact spoil_at t i j (by omega)

set_option maxRecDepth 100000 in
set_option maxHeartbeats 1000000 in
theorem table_any {B : Nat} {wa : World} {q N C : Nat} {t : List Int} (h : Fm B wa q N C t) {ta : Option Addr} {tc : Nat} (ht : Is wa ta tc t) :
    Calls Try.prog 37 #[.pointer (some ⟨q, 0, none⟩), .slice ta C tc] wa fun e w' => e = .returned (.bool true) ∧ Keep (fun _ => False) wa w' := by
  have htb := ftable h
  have htl := h.tl
  have hcap := h.cap2
  have htc : C ≤ tc := by have := ht.1; omega
  have hsl : ∀ i, (spoil t i).length = C := fun i => by rw [spoil_len]; exact htl
  have hcj : ∀ w', Keep (fun _ => False) wa w' → ∀ i, i < C → ∃ g, ta = some ⟨g, 0, none⟩ ∧ w'.cell? ⟨g, i, none⟩ = some (.int .i64 (t.getD i (-1))) := fun w' k i hi => (ht.more k).at (by omega)
  clear h ht
  go_enter Try.func37, Try.ntmps37
  go_wp2_with (go_at_call 27; refine htb.mono ?_; rintro e w1 ⟨a1, c1, rfl, R1⟩)
  have R1 : Ri wa w1 a1 c1 (spoil t 0) := R1
  have hc1 : C ≤ c1 := by have := R1.is.1; rw [hsl] at this; exact this
  clear htb htl
  go_loopw [6] (fun v wx => ∃ i : Nat, i ≤ C ∧ v = .int .i64 (i : Int) ∧ Ri wa wx a1 c1 (spoil t i)) (fun v _ => C - (intOf v).toNat)
  case atStart => exact ⟨0, by omega, rfl, R1⟩
  case round =>
    clear R1
    obtain ⟨i, hi, rfl, R2⟩ := hrel
    by_cases hlt : i < C
    · obtain ⟨g1, rfl, y1⟩ := R2.is.at (i := i) (by rw [hsl]; exact hlt)
      obtain ⟨g2, rfl, y2⟩ := hcj _ R2.keep i hlt
      rw [spoil_at t i i (Nat.le_refl _)] at y1
      generalize t.getD i (-1) = X at y1 y2
      have di : (i : Int) < (C : Int) := by omega
      have dw := wrapI (x := (i : Int) + 1) (by omega) (by omega)
      have hlt' : Hid (i < C) := hlt
      clear hlt hcj hsl
      go_upto_region 7 with fail
      go_quiet (fail)
      have k3 := (Keep.refl (fun _ => False) wr).drewN nq
      have R3 := R2.more k3
      have y3 := k3.cell y1
      have z3 := R3.fz i
      generalize wr.drewN nq = w3 at k3 R3 y3 z3 ⊢
      have R4 : Ri wa (w3.setCell ⟨g1, i, none⟩ (.int .i64 99)) (some ⟨g1, 0, none⟩) c1 (spoil t (i + 1)) := R3.set i 99
      clear R2 R3 k3 y1 y2
      go_wp2_with fail
      go_roundw
      case rel => exact ⟨i + 1, hlt', by go_num, R4⟩
      case measure => have : i < C := hlt'; simp [intOf]; omega
    · have di : ¬ (i : Int) < (C : Int) := by omega
      have HK := R2.keep
      clear hlt hcj hsl R2
      go_wp2_with fail
      go_ret
      exact ⟨rfl, HK⟩

/-- A row of runs of one's own, whatever it holds. -/
structure Ro (w0 w : World) (a : Option Addr) (c n : Nat) : Prop where
  ex : ∃ cs : List Value, cs.length = n * 3 ∧ w.ownsRow w0.heap.size 55 3 (.slice a n c) n cs
  keep : Keep (fun _ => False) w0 w
theorem Rr.ro {w0 w : World} {a : Option Addr} {c : Nat} {m : List Rn} (h : Rr w0 w a c m) : Ro w0 w a c m.length := ⟨⟨rcells m, rcells_len m, h.own⟩, h.keep⟩
theorem Ro.at {w0 w : World} {a : Option Addr} {c n : Nat} (h : Ro w0 w a c n) {i : Nat} (hi : i < n) :
    ∃ g, a = some ⟨g, 0, none⟩ ∧ (∃ v, w.cell? ⟨g, i * 3 + 1, none⟩ = some v) ∧ w.frozen? ⟨g, i * 3 + 1, none⟩ = false ∧ n ≤ c ∧ ∀ u, Ro w0 (w.setCell ⟨g, i * 3 + 1, none⟩ u) a c n := by
  obtain ⟨cs, hl, ho⟩ := h.ex
  rcases ho.2 with ⟨e, hn⟩ | ⟨g, c', cur, e, hb, hh, hn, hm, hs, ht⟩
  · omega
  · injection e with e1 e2 e3
    subst e1 e3
    refine ⟨g, rfl, ?_, ho.frozenAt _, hn, fun u => ?_⟩
    · have hx : i * 3 + 1 < cs.length := by omega
      have := ho.cells (g := g) rfl (i * 3 + 1) _ (List.getElem?_eq_getElem hx)
      rw [Addr.add_lit, Nat.zero_add] at this
      exact ⟨_, this⟩
    · obtain ⟨h1, h2⟩ := ho.stored (i * 3 + 1) u
      exact ⟨⟨_, by rw [List.length_set]; exact hl, h1⟩, h.keep.next (keep_grown h2) (fun y hy e => by injection e with e; omega)⟩

set_option maxRecDepth 100000 in
set_option maxHeartbeats 4000000 in
theorem is_any {B : Nat} {wa : World} {q N C : Nat} {t : List Int} (h : Fm B wa q N C t) {ta : Option Addr} {tc : Nat} (ht : Is wa ta tc t) {lba n : Int} (hat : -9223372036854775808 ≤ lba ∧ lba ≤ 9223372036854775807) :
    Calls Try.prog 14 #[.pointer (some ⟨q, 0, none⟩), .slice ta C tc, .int .i64 (N : Int), .int .i64 lba, .int .i64 n] wa fun e w' => e = .returned (.bool true) ∧ Keep (fun _ => False) wa w' := by
  have hcap2 := h.cap2
  have htl := h.tl
  have hml := refR_len t C
  have hruns := fruns h
  have hr9 : ∀ wx, Keep (fun _ => False) wa wx → Calls Try.prog 35 #[.slice ta C tc] wx fun e w' => ∃ a' c', e = .returned (.slice a' (refR t C).length c') ∧ Rr wx w' a' c' (refR t C) := fun wx k => by
    have := runs9 (ht.more k) (by omega) h.tab
    rw [htl] at this
    exact this
  have hct := fun wx (k : Keep (fun _ => False) wa wx) => fcount (h.more k)
  have hcp := fun wx (k : Keep (fun _ => False) wa wx) => fcap (h.more k)
  have hmo := fun wx (k : Keep (fun _ => False) wa wx) => fmost (h.more k)
  have hge := fun wx (k : Keep (fun _ => False) wa wx) => fget (h.more k) lba
  have hra := fun (o : okR (C : Int) lba n = true) wx (k : Keep (fun _ => False) wa wx) => frange (h.more k) o
  have hrn := fun (o : okR (C : Int) lba n = false) wx (k : Keep (fun _ => False) wa wx) => frange_no (h.more k) hat.2 o
  have htv := fun wx (k : Keep (fun _ => False) wa wx) => table_any (h.more k) (ht.more k)
  have hR9 : okR (C : Int) lba n = true → ∀ wx, Keep (fun _ => False) wa wx → Calls Try.prog 36 #[.slice ta C tc, .int .i64 lba, .int .i64 n] wx fun e w' => ∃ a' c', e = .returned (.slice a' (refP t lba.toNat n.toNat).length c') ∧ Rq wx w' a' c' (refP t lba.toNat n.toNat) := by
    intro o wx k
    obtain ⟨h1, h2, h3⟩ := okR_iff.1 o
    obtain ⟨L, rfl⟩ : ∃ L : Nat, lba = (L : Int) := ⟨lba.toNat, by omega⟩
    obtain ⟨M, rfl⟩ : ∃ M : Nat, n = (M : Int) := ⟨n.toNat, by omega⟩
    simp only [Int.toNat_natCast]
    have := range9 (ht.more k) (by omega) h.tab (lba := L) (n := M) (by omega)
    rw [htl] at this
    exact this
  have hpl : okR (C : Int) lba n = true → (refP t lba.toNat n.toNat).length ≤ 512 := fun o => by
    obtain ⟨h1, h2, h3⟩ := okR_iff.1 o
    have := refP_len t lba.toNat n.toNat
    omega
  have hent : entry t lba = if 0 ≤ lba ∧ lba < (C : Int) ∧ 0 ≤ t.getD lba.toNat (-1) then some (t.getD lba.toNat (-1)) else none := by unfold entry; rw [htl]
  have htc : C ≤ tc := by have := ht.1; omega
  have hcell : 0 ≤ lba → lba < (C : Int) → ∀ wx, Keep (fun _ => False) wa wx → ∃ g, ta = some ⟨g, 0, none⟩ ∧ wx.cell? ⟨g, lba.toNat, none⟩ = some (.int .i64 (t.getD lba.toNat (-1))) := fun h1 h2 wx k => (ht.more k).at (by omega)
  clear h ht htl
  generalize refR t C = m at hml hruns hr9 hct
  generalize refP t lba.toNat n.toNat = ps at hra hR9 hpl
  go_enter Try.func14, Try.ntmps14
  go_upto_region 2 with (go_at_call 25; refine hruns.mono ?_; rintro e w1 ⟨a1, c1, rfl, R1⟩)
  have h9 := hr9 _ R1.keep
  clear hruns hr9
  go_upto_region 3 with (go_at_call 35; refine h9.mono ?_; rintro e w2 ⟨a2, c2, rfl, R2⟩)
  have R3 := R1.more R2.keep
  have sm := same9 R3.rs R2.rs (by omega)
  rw [sameL_iff.2 rfl] at sm
  clear h9 R1 R2
  go_wp2_with fail
  refine sm.mono ?_
  rintro e w3 ⟨rfl, k3⟩
  have R4 := R3.more k3
  have hct := hct _ R4.keep
  clear sm R3 k3
  go_wp2_with fail
  refine hct.mono ?_
  rintro e w4 ⟨rfl, k4⟩
  have R5 := R4.more k4
  have hcp := hcp _ R5.keep
  have hmo := hmo _ R5.keep
  clear hct R4 k4
  go_wp2_with (first | (go_at_call 29; refine hcp.mono ?_; rintro e wz ⟨rfl, ez⟩; have ez := ez.symm; subst ez) | (go_at_call 30; refine hmo.mono ?_; rintro e wz ⟨rfl, ez⟩; have ez := ez.symm; subst ez))
  have r5 := R5.ro
  clear hcp hmo R5
  go_loopw [13] (fun v wx => ∃ i : Nat, i ≤ m.length ∧ v = .int .i64 (i : Int) ∧ Ro wa wx a1 c1 m.length) (fun v _ => m.length - (intOf v).toNat)
  case atStart => exact ⟨0, by omega, rfl, r5⟩
  case round =>
    clear r5
    obtain ⟨i, hi, rfl, r4⟩ := hrel
    by_cases hlt4 : i < m.length
    · obtain ⟨g, rfl, ⟨v, hv⟩, hz, hc1, hs⟩ := r4.at hlt4
      have r5 := hs (.int .i64 99)
      have di : (i : Int) < (m.length : Int) := by omega
      have dw := wrapI (x := (i : Int) + 1) (by omega) (by omega)
      have hlt' : Hid (i < m.length) := hlt4
      clear hlt4 hs hge hra hrn htv hR9 hpl hcell hent r4
      go_wp2_with fail
      go_roundw
      case rel => exact ⟨i + 1, hlt', by go_num, r5⟩
      case measure => have : i < m.length := hlt'; simp [intOf]; omega
    · have di : ¬ (i : Int) < (m.length : Int) := by omega
      have KW := r4.keep
      have hg := hge _ KW
      clear hlt4 r4 hge
      have hent' : Hid (entry t lba = if 0 ≤ lba ∧ lba < (C : Int) ∧ 0 ≤ t.getD lba.toNat (-1) then some (t.getD lba.toNat (-1)) else none) := hent
      clear hent
      generalize hEX0 : (entry t lba).getD 0 = EX at hg
      generalize hEB0 : (entry t lba).isSome = EB at hg
      have hEX : Hid ((entry t lba).getD 0 = EX) := hEX0
      have hEB : Hid ((entry t lba).isSome = EB) := hEB0
      clear hEX0 hEB0
      go_upto_region 10 with (go_at_call 22; refine hg.mono ?_; rintro e wz ⟨rfl, ez⟩; have ez := ez.symm; subst ez)
      clear hg
      go_cut [76] from 62 to 76 (fun v wx => v = .bool (entry t lba).isNone ∧ wx = wr)
      case first =>
        clear hra hrn htv hR9 hpl
        by_cases c1 : lba < 0
        · have hE : Hid (entry t lba = none) := by show entry t lba = none; rw [(show entry t lba = _ from hent'), if_neg (by omega)]
          clear hcell hent'
          go_wp2_with fail
          go_meet
          exact ⟨by rw [show entry t lba = none from hE]; rfl, rfl⟩
        by_cases c2 : (C : Int) ≤ lba
        · have hE : Hid (entry t lba = none) := by show entry t lba = none; rw [(show entry t lba = _ from hent'), if_neg (by omega)]
          clear hcell hent'
          go_wp2_with fail
          go_meet
          exact ⟨by rw [show entry t lba = none from hE]; rfl, rfl⟩
        obtain ⟨g, rfl, hc5⟩ := hcell (by omega) (by omega) wr KW
        generalize hX : t.getD lba.toNat (-1) = X at hc5
        obtain ⟨L, rfl⟩ : ∃ L : Nat, lba = (L : Int) := ⟨lba.toNat, by omega⟩
        rw [Int.toNat_natCast] at hc5 hX
        have dL : (L : Int) < (C : Int) := by omega
        by_cases c3 : X < 0
        · have hE : Hid (entry t (L : Int) = none) := by show entry t (L : Int) = none; rw [(show entry t (L : Int) = _ from hent'), if_neg (by rw [Int.toNat_natCast, hX]; omega)]
          clear hcell hent' hX
          go_wp2_with fail
          go_meet
          exact ⟨by rw [show entry t (L : Int) = none from hE]; rfl, rfl⟩
        · have hE : Hid (entry t (L : Int) = some X) := by show entry t (L : Int) = some X; rw [(show entry t (L : Int) = _ from hent'), if_pos (by rw [Int.toNat_natCast, hX]; omega), Int.toNat_natCast, hX]
          clear hcell hent' hX
          go_wp2_with fail
          go_meet
          exact ⟨by rw [show entry t (L : Int) = some X from hE]; rfl, rfl⟩
      case rest =>
        obtain ⟨rfl, rfl⟩ := hcut
        have hrt := right9 wc (C : Int) lba n (by omega)
        cases hE : entry t lba with
        | none =>
          have e1 : EX = 0 := by rw [← (show (entry t lba).getD 0 = EX from hEX), hE]; rfl
          have e2 : EB = false := by rw [← (show (entry t lba).isSome = EB from hEB), hE]; rfl
          subst e1 e2
          rw [show (none : Option Int).isNone = true from rfl]
          clear hcell hE hent'
          go_upto_region 15 with fail
          cases o1 : okR (C : Int) lba n with
          | false =>
            have hr := hrn o1 _ KW
            rw [o1] at hrt
            clear hra hrn htv hR9 hpl
            go_upto_region 16 with (go_at_call 19; refine hr.mono ?_; rintro e wz ⟨rfl, ez⟩; have ez := ez.symm; subst ez)
            clear hr
            go_wp2_with (go_at_call 28; refine hrt.mono ?_; rintro e wz ⟨rfl, ez⟩; have ez := ez.symm; subst ez)
            go_ret
            exact ⟨rfl, KW⟩
          | true =>
            have hr := hra o1 _ KW
            have hR9 := hR9 o1
            have hpl := hpl o1
            clear hrt hra hrn
            go_upto_region 16 with (go_at_call 19; refine hr.mono ?_; rintro e w5 ⟨pa, pc, rfl, r5⟩)
            have KW5 := KW.trans r5.keep
            have p5 := r5.rs
            have hrange := hR9 _ KW5
            have hrt := right9 w5 (C : Int) lba n (by omega)
            rw [o1] at hrt
            clear hr hR9 r5
            go_wp2_with (go_at_call 28; refine hrt.mono ?_; rintro e w6 ⟨rfl, e6⟩; have e6 := e6.symm; subst e6)
            refine hrange.mono ?_
            rintro e w7 ⟨a7, c7, rfl, R7⟩
            have KW7 := KW5.trans R7.keep
            have hpc := pieces9 (p5.more R7.keep) R7.rs (by omega)
            rw [sameL_iff.2 rfl] at hpc
            clear hrange p5 hrt
            go_wp2_with fail
            refine hpc.mono ?_
            rintro e w8 ⟨rfl, k8⟩
            have hwh := htv _ (KW7.trans k8)
            clear hpc R7 htv
            go_wp2_with fail
            refine hwh.mono ?_
            rintro e w9 ⟨rfl, k9⟩
            clear hwh
            go_wp2_with fail
            go_ret
            exact ⟨rfl, (KW7.trans k8).trans k9⟩
        | some X =>
          have e1 : X = EX := by rw [← (show (entry t lba).getD 0 = EX from hEX), hE]; rfl
          have e2 : EB = true := by rw [← (show (entry t lba).isSome = EB from hEB), hE]; rfl
          subst e1 e2
          rw [show (some X).isNone = false from rfl]
          have hE2 := (show entry t lba = _ from hent')
          rw [hE] at hE2
          have hin : 0 ≤ lba ∧ lba < (C : Int) ∧ X = t.getD lba.toNat (-1) := by
            by_cases c : 0 ≤ lba ∧ lba < (C : Int) ∧ 0 ≤ t.getD lba.toNat (-1)
            · rw [if_pos c] at hE2; injection hE2 with hE2; exact ⟨c.1, c.2.1, hE2⟩
            · rw [if_neg c] at hE2; cases hE2
          obtain ⟨g, rfl, hc5⟩ := hcell hin.1 hin.2.1 wc KW
          rw [← hin.2.2] at hc5
          have hi1 := hin.1
          have hi2 := hin.2.1
          have hi0 : ¬ lba < 0 := by omega
          clear hcell hE hent' hE2 hin
          go_upto_region 15 with fail
          clear hc5
          cases o1 : okR (C : Int) lba n with
          | false =>
            have hr := hrn o1 _ KW
            rw [o1] at hrt
            clear hra hrn htv hR9 hpl
            go_upto_region 16 with (go_at_call 19; refine hr.mono ?_; rintro e wz ⟨rfl, ez⟩; have ez := ez.symm; subst ez)
            clear hr
            go_wp2_with (go_at_call 28; refine hrt.mono ?_; rintro e wz ⟨rfl, ez⟩; have ez := ez.symm; subst ez)
            go_ret
            exact ⟨rfl, KW⟩
          | true =>
            have hr := hra o1 _ KW
            have hR9 := hR9 o1
            have hpl := hpl o1
            clear hrt hra hrn
            go_upto_region 16 with (go_at_call 19; refine hr.mono ?_; rintro e w5 ⟨pa, pc, rfl, r5⟩)
            have KW5 := KW.trans r5.keep
            have p5 := r5.rs
            have hrange := hR9 _ KW5
            have hrt := right9 w5 (C : Int) lba n (by omega)
            rw [o1] at hrt
            clear hr hR9 r5
            go_wp2_with (go_at_call 28; refine hrt.mono ?_; rintro e w6 ⟨rfl, e6⟩; have e6 := e6.symm; subst e6)
            refine hrange.mono ?_
            rintro e w7 ⟨a7, c7, rfl, R7⟩
            have KW7 := KW5.trans R7.keep
            have hpc := pieces9 (p5.more R7.keep) R7.rs (by omega)
            rw [sameL_iff.2 rfl] at hpc
            clear hrange p5 hrt
            go_wp2_with fail
            refine hpc.mono ?_
            rintro e w8 ⟨rfl, k8⟩
            have hwh := htv _ (KW7.trans k8)
            clear hpc R7 htv
            go_wp2_with fail
            refine hwh.mono ?_
            rintro e w9 ⟨rfl, k9⟩
            clear hwh
            go_wp2_with fail
            go_ret
            exact ⟨rfl, (KW7.trans k8).trans k9⟩
end Tg
end Go.Proofs.Ytbdankhlbepjoaa
