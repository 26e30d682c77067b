/-
  The statement's own look at a map beside a list of pages: is answers true where the runs are those of the pages.
-/
import Derived.Test.YtobljchpphcolaaRefP
import Derived.Test.YtobljchpphcolaaRefS
import Derived.Deep.CutBlock
namespace Go.Proofs.Ytobljchpphcolaa
open Go.ChangeShapes Go.WideShapes Go.ChangeAt Go.RowKit
namespace Tg

theorem Rw.poke {w : World} {G N : Nat} (h : Rw w G N []) (j : Nat) (v : Value) : Rw (w.setCell ⟨G, j, none⟩ v) G N [] := by
  refine ⟨fun j u hu => by simp at hu, fun i hi => ?_⟩
  obtain ⟨h1, h2⟩ := h.free i hi
  refine ⟨?_, by rw [World.frozen?_setCell]; exact h2⟩
  obtain ⟨x, hx⟩ := Option.isSome_iff_exists.1 h1
  by_cases e : i = j
  · subst e; rw [World.cell?_setCell_same w _ _ hx]; rfl
  · rw [World.cell?_setCell_other (h := fun x => e (congrArg Addr.off x).symm)]; exact h1

set_option maxRecDepth 100000 in
set_option maxHeartbeats 4000000 in
theorem is_any {w wa : World} {q b p k N cap : Nat} {m : List Rn} (h : Mp w wa q b p k N cap m) {ta : Option Addr} {tc : Nat} {t : List Int} (ht : Is wa ta tc t) (hb : Tab t) (ho : Of t m) (htl : t.length = cap) {lba n : Int} (hat : -9223372036854775808 ≤ lba ∧ lba ≤ 9223372036854775807) :
    Calls Try.prog 15 #[.pointer (some ⟨q, 0, none⟩), .slice ta cap tc, .int .i64 (N : Int), .int .i64 lba, .int .i64 n] wa fun e w' => e = .returned (.bool true) ∧ Keep (fun _ => False) wa w' := by
  have hml := h.len
  have hN2 := h.N2
  have hcap2 := h.cap2
  have hruns := runs_any h
  have hrr : refR t cap = m := by rw [← htl]; exact ho.runs.symm
  have hR9 : 1 ≤ n → 0 ≤ lba → n ≤ (cap : Int) - lba → ∀ ps, Cut (page m) (lba + n) lba ps → ∀ wx, Is wx ta tc t → ps = refP t lba.toNat n.toNat ∧ Calls Try.prog 37 #[.slice ta cap tc, .int .i64 lba, .int .i64 n] wx fun e w' => ∃ a' c', e = .returned (.slice a' (refP t lba.toNat n.toNat).length c') ∧ Rq wx w' a' c' (refP t lba.toNat n.toNat) := by
    intro h1 h2 h3 ps hc wx hx
    obtain ⟨L, rfl⟩ : ∃ L : Nat, lba = (L : Int) := ⟨lba.toNat, by omega⟩
    obtain ⟨M, rfl⟩ : ∃ M : Nat, n = (M : Int) := ⟨n.toNat, by omega⟩
    simp only [Int.toNat_natCast]
    refine ⟨ho.cut (by omega) hc, ?_⟩
    have := range9 hx (by omega) hb (lba := L) (n := M) (by omega)
    rw [htl] at this
    exact this
  have hpg : page m lba = entry t lba := ho.2 lba
  have hent : entry t lba = if 0 ≤ lba ∧ lba < (cap : Int) ∧ 0 ≤ t.getD lba.toNat (-1) then some (t.getD lba.toNat (-1)) else none := by unfold entry; rw [htl]
  have htc : cap ≤ tc := by have := ht.1; omega
  have hcell : 0 ≤ lba → lba < (cap : Int) → ∀ wx, Is wx ta tc t → ∃ g, ta = some ⟨g, 0, none⟩ ∧ wx.cell? ⟨g, lba.toNat, none⟩ = some (.int .i64 (t.getD lba.toNat (-1))) := fun h1 h2 wx hx => hx.at (by omega)
  have hG := h.out (Nat.le_refl wa.heap.size)
  have hlt := h.lt
  have hGw : w.heap.size ≤ wa.heap.size := h.keep.size
  have hgt : ∀ g, ta = some ⟨g, 0, none⟩ → ¬ (g = wa.heap.size ∧ 0 < m.length) := fun g e => by
    obtain ⟨g', e', hx⟩ := ht.at (i := 0) (by have := h.cap1; omega)
    rw [e] at e'
    injection e' with e'; injection e' with e'; subst e'
    have := World.block_lt_of_cell? wa _ hx
    rintro ⟨e1, -⟩
    have e2 : g < wa.heap.size := this
    omega
  generalize hGe : wa.heap.size = G at hruns hG hlt hGw hgt
  go_enter Try.func15, Try.ntmps15
  go_upto_region 2 with (go_at_call 16; refine hruns.mono ?_; rintro e w1 ⟨rfl, r1, k1⟩)
  have M1 := h.more k1
  have t1 := ht.more k1
  have hG1 : 0 < m.length → G < w1.heap.size := fun h0 => by
    obtain ⟨x, hx⟩ := Option.isSome_iff_exists.1 (r1.free 0 (by omega)).1
    exact World.block_lt_of_cell? w1 _ hx
  have hr9 := runs9 t1 (by omega) hb
  rw [htl, hrr] at hr9
  clear hruns h ht
  go_upto_region 3 with (go_at_call 35; refine hr9.mono ?_; rintro e w2 ⟨a2, c2, rfl, R2⟩)
  have M2 := M1.more R2.keep
  have t2 := t1.more R2.keep
  have r2 := r1.more R2.keep
  have s2 := R2.rs
  have K2 := k1.trans R2.keep
  have ob2 : ∀ g, a2 = some ⟨g, 0, none⟩ → ¬ (g = G ∧ 0 < m.length) := fun g e => by have := (R2.block e).1; rintro ⟨e1, e2⟩; have := hG1 e2; omega
  have sm := same9 (r2.rs (by omega)) s2 (by omega)
  rw [sameL_iff.2 rfl] at sm
  clear hr9 M1 t1 r1 k1 R2
  go_wp2_with fail
  refine sm.mono ?_
  rintro e w3 ⟨rfl, k3⟩
  have M3 := M2.more k3
  have t3 := t2.more k3
  have r3 : Rw w3 G (m.length * 3) [] := ⟨fun j u hu => by simp at hu, (r2.more k3).free⟩
  have s3 := s2.more k3
  have K3 := K2.trans k3
  have hct := count_any M3
  have hcp := capacity_any M3
  have hmo := most_any M3
  clear sm M2 t2 r2 s2 K2 k3
  go_wp2_with (first | (go_at_call 12; refine hct.mono ?_; rintro e wz ⟨rfl, ez⟩; have ez := ez.symm; subst ez) | (go_at_call 27; refine hcp.mono ?_; rintro e wz ⟨rfl, ez⟩; have ez := ez.symm; subst ez) | (go_at_call 28; refine hmo.mono ?_; rintro e wz ⟨rfl, ez⟩; have ez := ez.symm; subst ez))
  clear hct hcp hmo
  go_loopw [13] (fun v wx => ∃ i : Nat, i ≤ m.length ∧ v = .int .i64 (i : Int) ∧ Rw wx G (m.length * 3) [] ∧ Keep (fun x => x = G ∧ 0 < m.length) w3 wx) (fun v _ => m.length - (intOf v).toNat)
  case atStart => exact ⟨0, by omega, rfl, r3, Keep.refl _ _⟩
  case round =>
    clear r3
    obtain ⟨i, hi, rfl, r4, k4⟩ := hrel
    by_cases hlt4 : i < m.length
    · obtain ⟨z1, z2⟩ := r4.free (i * 3 + 1) (by omega)
      obtain ⟨v, hv⟩ := Option.isSome_iff_exists.1 z1
      have r5 := r4.poke (i * 3 + 1) (.int .i64 99)
      have k5 : Keep (fun x => x = G ∧ 0 < m.length) w3 (wr.setCell ⟨G, i * 3 + 1, none⟩ (.int .i64 99)) := k4.setCell (p := ⟨G, i * 3 + 1, none⟩) (Or.inl ⟨rfl, by omega⟩) _
      have di : (i : Int) < (m.length : Int) := by omega
      have dw := wrapI (x := (i : Int) + 1) (by omega) (by omega)
      have hlt' : Hid (i < m.length) := hlt4
      clear hlt4 z1 hR9 hcell hpg hent M3 t3 s3 r4 k4 hgt ob2
      go_wp2_with fail
      go_roundw
      case rel => exact ⟨i + 1, hlt', by go_num, r5, k5⟩
      case measure => have : i < m.length := hlt'; simp [intOf]; omega
    · have di : ¬ (i : Int) < (m.length : Int) := by omega
      have M4 := M3.other k4 (fun x e => by omega) (by omega) (by omega) (by omega) (by omega)
      have t4 := t3.keep k4 hgt
      have s4 := s3.keep k4 ob2
      have KW : Keep (fun _ => False) wa wr := K3.next k4 (fun x hx e => by omega)
      have hg := get_map M4 lba hat.2
      clear hlt4 M3 t3 s3 K3 k4 r4
      rw [hpg] at hg
      have hent' : Hid (entry t lba = if 0 ≤ lba ∧ lba < (cap : Int) ∧ 0 ≤ t.getD lba.toNat (-1) then some (t.getD lba.toNat (-1)) else none) := hent
      clear hent hpg hG1
      generalize hEX0 : (entry t lba).getD 0 = EX at hg
      generalize hEB0 : (entry t lba).isSome = EB at hg
      have hEX : Hid ((entry t lba).getD 0 = EX) := hEX0
      have hEB : Hid ((entry t lba).isSome = EB) := hEB0
      clear hEX0 hEB0 htl hrr hGe
      go_upto_region 10 with (go_at_call 24; refine hg.mono ?_; rintro e w5 ⟨rfl, k5⟩)
      have M4 := M4.more k5
      have t4 := t4.more k5
      have s4 := s4.more k5
      have KW := KW.trans k5
      clear hg k5
      go_cut [76] from 62 to 76 (fun v wx => v = .bool (entry t lba).isNone ∧ wx = w5)
      case first =>
        by_cases c1 : lba < 0
        · have hE : Hid (entry t lba = none) := by show entry t lba = none; rw [(show entry t lba = _ from hent'), if_neg (by omega)]
          clear hcell hR9 M4 t4 s4 hent'
          go_wp2_with fail
          go_meet
          exact ⟨by rw [show entry t lba = none from hE]; rfl, rfl⟩
        by_cases c2 : (cap : Int) ≤ lba
        · have hE : Hid (entry t lba = none) := by show entry t lba = none; rw [(show entry t lba = _ from hent'), if_neg (by omega)]
          clear hcell hR9 M4 t4 s4 hent'
          go_wp2_with fail
          go_meet
          exact ⟨by rw [show entry t lba = none from hE]; rfl, rfl⟩
        obtain ⟨g, rfl, hc5⟩ := hcell (by omega) (by omega) w5 t4
        generalize hX : t.getD lba.toNat (-1) = X at hc5
        obtain ⟨L, rfl⟩ : ∃ L : Nat, lba = (L : Int) := ⟨lba.toNat, by omega⟩
        rw [Int.toNat_natCast] at hc5 hX
        have dL : (L : Int) < (cap : Int) := by omega
        by_cases c3 : X < 0
        · have hE : Hid (entry t (L : Int) = none) := by show entry t (L : Int) = none; rw [(show entry t (L : Int) = _ from hent'), if_neg (by rw [Int.toNat_natCast, hX]; omega)]
          clear hcell hR9 M4 t4 s4 hent' hX
          go_wp2_with fail
          go_meet
          exact ⟨by rw [show entry t (L : Int) = none from hE]; rfl, rfl⟩
        · have hE : Hid (entry t (L : Int) = some X) := by show entry t (L : Int) = some X; rw [(show entry t (L : Int) = _ from hent'), if_pos (by rw [Int.toNat_natCast, hX]; omega), Int.toNat_natCast, hX]
          clear hcell hR9 M4 t4 s4 hent' hX
          go_wp2_with fail
          go_meet
          exact ⟨by rw [show entry t (L : Int) = some X from hE]; rfl, rfl⟩
      case rest =>
        obtain ⟨rfl, rfl⟩ := hcut
        cases hE : entry t lba with
        | none =>
          have e1 : EX = 0 := by rw [← (show (entry t lba).getD 0 = EX from hEX), hE]; rfl
          have e2 : EB = false := by rw [← (show (entry t lba).isSome = EB from hEB), hE]; rfl
          subst e1 e2
          rw [show (none : Option Int).isNone = true from rfl]
          clear hcell hE hent'
          go_upto_region 15 with fail
          cases o1 : okR (cap : Int) lba n with
          | false =>
            have hr := range_no M4 hat.2 o1
            have hrt := fun w' => right9 w' (cap : Int) lba n (by omega)
            rw [o1] at hrt
            clear M4 t4 s4 hR9
            go_upto_region 16 with (go_at_call 17; refine hr.mono ?_; rintro e w5 ⟨rfl, k5⟩)
            have hrt5 := hrt w5
            clear hr hrt
            go_wp2_with (go_at_call 22; refine hrt5.mono ?_; rintro e w6 ⟨rfl, e6⟩; have e6 := e6.symm; subst e6)
            go_ret
            exact ⟨rfl, KW.trans k5⟩
          | true =>
            obtain ⟨o2, o3, o4⟩ := okR_iff.1 o1
            have hr := range_any M4 o3 o2 (by omega)
            have hrt := fun w' => right9 w' (cap : Int) lba n (by omega)
            rw [o1] at hrt
            have hR9 := hR9 o2 o3 o4
            go_upto_region 16 with (go_at_call 17; refine hr.mono ?_; rintro e w5 ⟨pa, pc, ps, rfl, hcut, r5, hpl⟩)
            have M5 := M4.more r5.keep
            have t5 := t4.more r5.keep
            have s5 := s4.more r5.keep
            have KW5 := KW.trans r5.keep
            have p5 := r5.rs
            obtain ⟨hps, hrange⟩ := hR9 ps hcut w5 t5
            rw [← hps] at hrange
            clear hps
            have hrt5 := hrt w5
            clear hr hrt hR9 hcut r5 M4 t4 s4
            go_wp2_with (go_at_call 22; refine hrt5.mono ?_; rintro e w6 ⟨rfl, e6⟩; have e6 := e6.symm; subst e6)
            refine hrange.mono ?_
            rintro e w7 ⟨a7, c7, rfl, R7⟩
            have M7 := M5.more R7.keep
            have s7 := s5.more R7.keep
            have KW7 := KW5.trans R7.keep
            have hpc := pieces9 (p5.more R7.keep) R7.rs (by omega)
            rw [sameL_iff.2 rfl] at hpc
            clear hrange M5 t5 s5 p5 hrt5
            go_wp2_with fail
            refine hpc.mono ?_
            rintro e w8 ⟨rfl, k8⟩
            have hwh := whole_any (M7.more k8) (s7.more k8)
            clear hpc M7 s7 R7
            go_wp2_with fail
            refine hwh.mono ?_
            rintro e w9 ⟨rfl, k9⟩
            clear hwh
            go_wp2_with fail
            go_ret
            exact ⟨rfl, (KW7.trans k8).trans k9⟩
        | some X =>
          have e1 : X = EX := by rw [← (show (entry t lba).getD 0 = EX from hEX), hE]; rfl
          have e2 : EB = true := by rw [← (show (entry t lba).isSome = EB from hEB), hE]; rfl
          subst e1 e2
          rw [show (some X).isNone = false from rfl]
          have hE2 := (show entry t lba = _ from hent')
          rw [hE] at hE2
          have hin : 0 ≤ lba ∧ lba < (cap : Int) ∧ X = t.getD lba.toNat (-1) := by
            by_cases c : 0 ≤ lba ∧ lba < (cap : Int) ∧ 0 ≤ t.getD lba.toNat (-1)
            · rw [if_pos c] at hE2; injection hE2 with hE2; exact ⟨c.1, c.2.1, hE2⟩
            · rw [if_neg c] at hE2; cases hE2
          obtain ⟨g, rfl, hc5⟩ := hcell hin.1 hin.2.1 wc t4
          rw [← hin.2.2] at hc5
          have hi1 := hin.1
          have hi2 := hin.2.1
          have hi0 : ¬ lba < 0 := by omega
          clear hcell hE hent' hE2 hin
          go_upto_region 15 with fail
          clear hc5
          cases o1 : okR (cap : Int) lba n with
          | false =>
            have hr := range_no M4 hat.2 o1
            have hrt := fun w' => right9 w' (cap : Int) lba n (by omega)
            rw [o1] at hrt
            clear M4 t4 s4 hR9
            go_upto_region 16 with (go_at_call 17; refine hr.mono ?_; rintro e w5 ⟨rfl, k5⟩)
            have hrt5 := hrt w5
            clear hr hrt
            go_wp2_with (go_at_call 22; refine hrt5.mono ?_; rintro e w6 ⟨rfl, e6⟩; have e6 := e6.symm; subst e6)
            go_ret
            exact ⟨rfl, KW.trans k5⟩
          | true =>
            obtain ⟨o2, o3, o4⟩ := okR_iff.1 o1
            have hr := range_any M4 o3 o2 (by omega)
            have hrt := fun w' => right9 w' (cap : Int) lba n (by omega)
            rw [o1] at hrt
            have hR9 := hR9 o2 o3 o4
            go_upto_region 16 with (go_at_call 17; refine hr.mono ?_; rintro e w5 ⟨pa, pc, ps, rfl, hcut, r5, hpl⟩)
            have M5 := M4.more r5.keep
            have t5 := t4.more r5.keep
            have s5 := s4.more r5.keep
            have KW5 := KW.trans r5.keep
            have p5 := r5.rs
            obtain ⟨hps, hrange⟩ := hR9 ps hcut w5 t5
            rw [← hps] at hrange
            clear hps
            have hrt5 := hrt w5
            clear hr hrt hR9 hcut r5 M4 t4 s4
            go_wp2_with (go_at_call 22; refine hrt5.mono ?_; rintro e w6 ⟨rfl, e6⟩; have e6 := e6.symm; subst e6)
            refine hrange.mono ?_
            rintro e w7 ⟨a7, c7, rfl, R7⟩
            have M7 := M5.more R7.keep
            have s7 := s5.more R7.keep
            have KW7 := KW5.trans R7.keep
            have hpc := pieces9 (p5.more R7.keep) R7.rs (by omega)
            rw [sameL_iff.2 rfl] at hpc
            clear hrange M5 t5 s5 p5 hrt5
            go_wp2_with fail
            refine hpc.mono ?_
            rintro e w8 ⟨rfl, k8⟩
            have hwh := whole_any (M7.more k8) (s7.more k8)
            clear hpc M7 s7 R7
            go_wp2_with fail
            refine hwh.mono ?_
            rintro e w9 ⟨rfl, k9⟩
            clear hwh
            go_wp2_with fail
            go_ret
            exact ⟨rfl, (KW7.trans k8).trans k9⟩
end Tg
end Go.Proofs.Ytobljchpphcolaa
