/-
  The document's own numbers one behind the other: puts, number, whole, May.
-/
import Derived.Test.YtlekapfhbceibaaVw
import Derived.Test.YtlekapfhbceibaaDeltaN
namespace Go.Proofs.Ytlekapfhbceibaa
open Go.ChangeShapes Go.WideShapes Go.ChangeAt Go.RowKit
namespace Tg
open Vi
theorem fold_bd {v : Int} (hv : -9223372036854775808 ≤ v ∧ v ≤ 9223372036854775807) : 0 ≤ fold v ∧ fold v ≤ 18446744073709551615 := by
  unfold fold; split <;> omega
set_option maxHeartbeats 600000 in
/-- puts. -/
theorem puts_any {v : Int} (hv : -9223372036854775808 ≤ v ∧ v ≤ 9223372036854775807) (w : World) :
    Calls Try.prog 31 #[.int .i64 v] w fun e w' => ∃ g cap, e = .returned (.slice (some ⟨g, 0, none⟩) (vb (fold v)).length cap) ∧ Gr w w' g cap (vb (fold v)) := by
  have e1 : IntKind.i64.wrap v = v := by rw [IntKind.wrap_i64]; omega
  go_enter Try.func31, Try.ntmps31
  go_wp2_with fail
  refine (rof_any hv _).mono ?_
  rintro e w' ⟨rfl, e2⟩
  subst e2
  go_wp2_with fail
  refine (rput_any (fold v) _ (fold_bd hv)).mono ?_
  rintro e w' ⟨g, cap, rfl, hG⟩
  go_wp2_with fail
  go_ret
  exact ⟨g, cap, rfl, hG⟩
set_option maxHeartbeats 600000 in
/-- What lies behind a row's first bytes. -/
theorem Row.drop {w : World} {b o len cap n : Nat} {l : List Int} (h : Row w (some ⟨b, o, none⟩) len cap l) (hn : n ≤ len) : Row w (some ⟨b, o + n, none⟩) (len - n) (cap - n) (l.drop n) := by
  obtain ⟨h1, h2, h3, h4, h5⟩ := h
  refine ⟨by simp [h1], by omega, by omega, fun x hx => h4 x (List.mem_of_mem_drop hx), ?_⟩
  by_cases hl : len - n = 0
  · exact Or.inl hl
  · right
    obtain ⟨b', o', e, hc⟩ := h5.resolve_left (by omega)
    injection e with e
    injection e with e1 e2 e3
    subst e1 e2
    refine ⟨b, o + n, rfl, fun i hi => ?_⟩
    rw [Nat.add_assoc, hc (n + i) (by omega)]
    simp [List.getD, List.getElem?_drop]
/-- number. -/
theorem number_any {w : World} {a : Option Addr} {len cap : Nat} {l : List Int} (hr : Row w a len cap l) :
    Calls Try.prog 47 #[.slice a len cap] w fun e w' => (match numL l with
      | none => e = .returned (.tuple #[.int .i64 0, .slice none 0 0, .bool false])
      | some (v, r) => ∃ a2 len2 cap2, e = .returned (.tuple #[.int .i64 v, .slice a2 len2 cap2, .bool true]) ∧ ∀ w0, Row w0 a len cap l → Row w0 a2 len2 cap2 r) ∧ Keep (fun _ => False) w w' := by
  have K0 := Keep.refl (fun _ => False) w
  have hb : Bys l := hr.2.2.2.1
  have hg := rget_any hr
  have hlen := hr.1
  have hc := hr.2.1
  have hc2 := hr.2.2.1
  unfold numL
  cases hv : vg 0 0 l with
  | none =>
    rw [hv] at hg
    go_enter Try.func47, Try.ntmps47
    go_wp2_with fail
    refine hg.mono ?_
    rintro e w' ⟨⟨x, m, rfl, -⟩, e2⟩
    subst e2
    go_wp2_with fail
    go_ret3
    exact ⟨rfl, K0⟩
  | some p =>
    obtain ⟨v, n⟩ := p
    obtain ⟨g1, g2, g3, g4⟩ := Vi.put_get hb hv
    have gs := gv_some hv
    rw [hv] at hg
    simp only
    by_cases hle : v ≤ 1099511627776
    · rw [if_pos hle]
      have hn1 : 1 ≤ n := by
        have h1 := vb_pos v
        rw [← g4, List.length_take] at h1; omega
      obtain ⟨bl, o, rfl, hcell⟩ := hr.2.2.2.2.resolve_left (by omega)
      have hle' : ¬ 1099511627776 < v := by omega
      have e1 : IntKind.i64.wrap v = v := by rw [IntKind.wrap_i64]; omega
      have hn2 : n ≤ len := by omega
      have hnc : n ≤ cap := by omega
      by_cases hcn : cap = n
      · have hln : len = n := by omega
        subst hln
        subst hcn
        have hR2 : ∀ (w0 : World) (a2 : Option Addr), Row w0 a2 0 0 (l.drop cap) := fun w0 a2 => ⟨by simp [hlen], by omega, by omega, fun x hx => hb x (List.mem_of_mem_drop hx), Or.inl rfl⟩
        go_enter Try.func47, Try.ntmps47
        go_wp2_with fail
        refine hg.mono ?_
        rintro e w' ⟨⟨x, m, rfl, hx⟩, e2⟩
        subst e2
        obtain ⟨rfl, rfl⟩ := hx rfl
        rw [gs.1, gs.2.1]
        clear hx
        go_wp2_with fail
        go_quiet (fail)
        go_wp2_with fail
        go_ret3
        exact ⟨⟨_, _, _, rfl, fun w0 _ => hR2 w0 _⟩, K0.drewN _⟩
      · have hR2 : ∀ w0, Row w0 (some ⟨bl, o, none⟩) len cap l → _ := fun w0 (h0 : Row w0 (some ⟨bl, o, none⟩) len cap l) => h0.drop hn2
        go_enter Try.func47, Try.ntmps47
        go_wp2_with fail
        refine hg.mono ?_
        rintro e w' ⟨⟨x, m, rfl, hx⟩, e2⟩
        subst e2
        obtain ⟨rfl, rfl⟩ := hx rfl
        rw [gs.1, gs.2.1]
        clear hx
        go_wp2_with fail
        go_quiet (fail)
        go_wp2_with fail
        go_ret3
        exact ⟨⟨_, _, _, rfl, hR2⟩, K0.drewN _⟩
    · rw [if_neg hle]
      have hgt : 1099511627776 < v := by omega
      go_enter Try.func47, Try.ntmps47
      go_wp2_with fail
      refine hg.mono ?_
      rintro e w' ⟨⟨x, m, rfl, hx⟩, e2⟩
      subst e2
      obtain ⟨rfl, rfl⟩ := hx rfl
      rw [gs.1, gs.2.1]
      go_wp2_with fail
      go_ret3
      exact ⟨rfl, K0⟩
set_option maxHeartbeats 600000 in
/-- whole. -/
theorem whole_any {w : World} {a : Option Addr} {len cap : Nat} {l : List Int} (hr : Row w a len cap l) :
    Calls Try.prog 48 #[.slice a len cap] w fun e w' => (match whoL l with
      | none => e = .returned (.tuple #[.int .i64 0, .slice none 0 0, .bool false])
      | some (v, r) => ∃ a2 len2 cap2, e = .returned (.tuple #[.int .i64 v, .slice a2 len2 cap2, .bool true]) ∧ ∀ w0, Row w0 a len cap l → Row w0 a2 len2 cap2 r) ∧ Keep (fun _ => False) w w' := by
  have hb : Bys l := hr.2.2.2.1
  have hg := number_any hr
  have h0 : Vi.unfold 0 = 0 := by decide
  unfold whoL
  cases hv : numL l with
  | none =>
    rw [hv] at hg
    have hi := fun w => rint_any (u := 0) (by omega) w
    rw [h0] at hi
    go_enter Try.func48, Try.ntmps48
    go_wp2_with fail
    refine hg.mono ?_
    rintro e w' ⟨rfl, k1⟩
    go_wp2_with fail
    refine (hi _).mono ?_
    rintro e w2 ⟨rfl, e2⟩
    subst e2
    go_wp2_with fail
    go_ret3
    exact ⟨rfl, k1⟩
  | some p =>
    obtain ⟨v, r⟩ := p
    obtain ⟨g1, g2, -, -⟩ := put_num hb hv
    rw [hv] at hg
    simp only at hg ⊢
    have e1 : IntKind.u64.wrap v = v := by rw [IntKind.wrap_u64]; omega
    have hu : -9223372036854775808 ≤ Vi.unfold v ∧ Vi.unfold v ≤ 9223372036854775807 := by unfold Vi.unfold; split <;> omega
    have e3 : IntKind.i64.wrap (Vi.unfold v) = Vi.unfold v := by rw [IntKind.wrap_i64]; omega
    have hi := fun w => rint_any (u := v) (by omega) w
    go_enter Try.func48, Try.ntmps48
    go_wp2_with fail
    refine hg.mono ?_
    rintro e w' ⟨⟨a2, len2, cap2, rfl, hR⟩, k1⟩
    go_wp2_with fail
    refine (hi _).mono ?_
    rintro e w2 ⟨rfl, e2⟩
    subst e2
    go_wp2_with fail
    go_ret3
    exact ⟨⟨_, _, _, rfl, hR⟩, k1⟩
set_option maxHeartbeats 1000000 in
/-- May. -/
theorem may_any {w : World} {a : Option Addr} {cap : Nat} {l : List Rn} (hR : Rz w a cap l) :
    Calls Try.prog 13 #[.slice a l.length cap] w fun e w' => e = .returned (.bool (mayB l)) ∧ Keep (fun _ => False) w w' := by
  have K0 := Keep.refl (fun _ => False) w
  have hlc := hR.1
  have hlc2 := hR.2.1
  unfold mayB
  by_cases hl : l.length ≤ 512
  · have hl' : ¬ (512 : Int) < (l.length : Int) := by omega
    rw [decide_eq_true hl, Bool.true_and]
    have hB0 : ∃ B, l.all (fun x => decide (MayX x)) = B := ⟨_, rfl⟩
    obtain ⟨B, hB⟩ := hB0
    rw [hB]
    have hB' : Hid (l.all (fun x => decide (MayX x)) = B) := hB
    clear hB
    go_enter Try.func13, Try.ntmps13
    go_wp2_with fail
    go_loopw [3] (fun v wx => ∃ i : Nat, i ≤ l.length ∧ v = .int .i64 (i : Int) ∧ Hid (B = (l.drop i).all (fun x => decide (MayX x))) ∧ Keep (fun _ => False) w wx) (fun v _ => l.length - (intOf v).toNat)
    case atStart => exact ⟨0, by omega, rfl, (show _ = B from hB').symm, K0⟩
    case round =>
      obtain ⟨i, hi, rfl, hI, k1⟩ := hrel
      by_cases hlt : i < l.length
      · obtain ⟨x, hx⟩ := get_rn hlt
        obtain ⟨g, o, rfl, c0, c1, c2⟩ := (hR.more k1).at hx
        have hstep : Hid (B = (decide (MayX x) && (l.drop (i + 1)).all (fun x => decide (MayX x)))) := by
          show _ = _
          rw [show _ = _ from hI, drop_at hx, List.all_cons]
        have di : (i : Int) < (l.length : Int) := by omega
        have dw := wrapI (x := (i : Int) + 1) (by omega) (by omega)
        have hlt' : Hid (i < l.length) := hlt
        clear hI hlt hx
        by_cases b : MayX x
        · have hI2 : Hid (B = (l.drop (i + 1)).all (fun x => decide (MayX x))) := by
            show _ = _
            rw [show _ = _ from hstep, decide_eq_true b, Bool.true_and]
          obtain ⟨b0, b1, b2, b3, b4, b5⟩ := b
          have n0 : ¬ x.lba < 0 := by omega
          have n1 : ¬ 512 < x.lba := by omega
          have n2 : ¬ x.len < 0 := by omega
          have n3 : ¬ 512 < x.len := by omega
          have n4 : ¬ x.phys < -1 := by omega
          have n5 : ¬ 1048576 < x.phys := by omega
          clear hstep b0 b1 b2 b3 b4 b5
          go_wp2_with fail
          go_roundw
          case rel => exact ⟨i + 1, hlt', by go_num, hI2, k1.alloc _⟩
          case measure => have : i < l.length := hlt'; simp [intOf]; omega
        · have hF : Hid (B = false) := by
            show _ = _
            rw [show _ = _ from hstep, decide_eq_false b, Bool.false_and]
          clear hstep
          obtain rfl : B = false := hF
          by_cases n0 : x.lba < 0
          · go_wp2_with fail
            go_ret
            exact ⟨rfl, k1.alloc _⟩
          by_cases n1 : 512 < x.lba
          · go_wp2_with fail
            go_ret
            exact ⟨rfl, k1.alloc _⟩
          by_cases n2 : x.len < 0
          · go_wp2_with fail
            go_ret
            exact ⟨rfl, k1.alloc _⟩
          by_cases n3 : 512 < x.len
          · go_wp2_with fail
            go_ret
            exact ⟨rfl, k1.alloc _⟩
          by_cases n4 : x.phys < -1
          · go_wp2_with fail
            go_ret
            exact ⟨rfl, k1.alloc _⟩
          · have n5 : 1048576 < x.phys := by
              refine Decidable.byContradiction fun h => b ?_
              omega
            go_wp2_with fail
            go_ret
            exact ⟨rfl, k1.alloc _⟩
      · obtain rfl : i = l.length := by omega
        have hT : Hid (B = true) := by
          show _ = _
          rw [show _ = _ from hI, List.drop_length]; rfl
        obtain rfl : B = true := hT
        clear hI hlt
        go_wp2_with fail
        go_ret
        exact ⟨rfl, k1⟩
  · have hl' : (512 : Int) < (l.length : Int) := by omega
    rw [decide_eq_false hl, Bool.false_and]
    go_enter Try.func13, Try.ntmps13
    go_wp2_with fail
    go_ret
    exact ⟨rfl, K0⟩
end Tg
end Go.Proofs.Ytlekapfhbceibaa
