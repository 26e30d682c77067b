/-
  StreamLast's body.
-/
import Derived.Test.YthfbfepaoknmfaaPi
namespace Go.Proofs.Ythfbfepaoknmfaa
open Go.ChangeShapes Go.WideShapes Go.ChangeAt Go.RowKit
namespace Tg
theorem Acts.more {w w' : World} {a : Option Addr} {len cap : Nat} (h : Acts w a len cap) (k : Keep (fun _ => False) w w') : Acts w' a len cap := h.keep k (fun _ _ _ e => e)
theorem Acts.at {w : World} {a : Option Addr} {len cap : Nat} (h : Acts w a len cap) {i : Nat} (hi : i < len) : ∃ b o x y, a = some ⟨b, o, none⟩ ∧ (-9223372036854775808 ≤ x ∧ x ≤ 9223372036854775807) ∧ (-9223372036854775808 ≤ y ∧ y ≤ 9223372036854775807) ∧ w.cell? ⟨b, o + i * 2, none⟩ = some (.int .i64 x) ∧ w.cell? ⟨b, o + i * 2 + 1, none⟩ = some (.int .i64 y) := by
  rcases h.2.2 with e | ⟨b, o, rfl, hc⟩
  · omega
  · obtain ⟨f, hr, hf⟩ := hc i hi
    exact ⟨b, o, f 0, f 1, rfl, hr 0, hr 1, hf 0 (by omega), hf 1 (by omega)⟩
/-- The detector, none of its streams longer than K. -/
def DtK (w wx : World) (p g h n : Nat) (K : Int) : Prop := ∃ s, Dt w wx p g h n s ∧ Lb s K
theorem feed_ex {s : St} {n : Nat} (ho : s.Ok n) (lba m : Int) {j : Nat} : (s.feed lba m).ex.getD j 0 = if j = s.pos lba then lba + m else s.ex.getD j 0 := by
  unfold St.feed
  simp only
  rw [getD_set _ _ _ _ (by rw [ho.ex]; exact ho.pos_lt lba)]
set_option maxRecDepth 100000 in
set_option maxHeartbeats 1000000 in
theorem last_no {k : Int} (hk : k < 1 ∨ 16 < k) (v : Value) (w : World) : Calls Try.prog 6 #[.int .i64 k, v] w fun e w' => e = .returned (.bool true) ∧ Keep (fun _ => False) w w' := by
  have haw := awake_any w
  have hno := new_no hk
  go_enter Try.func6, Try.ntmps6
  go_wp2_with fail
  refine haw.mono ?_
  rintro e w1 ⟨rfl, K1⟩
  clear haw hk
  go_wp2_with fail
  refine (hno _).mono ?_
  rintro e wz ⟨rfl, e0⟩
  have e0 := e0.symm
  subst e0
  clear hno
  go_wp2_with fail
  go_ret
  exact ⟨rfl, K1⟩
set_option maxRecDepth 100000 in
set_option maxHeartbeats 1000000 in
theorem last_many {n : Nat} (hn : 1 ≤ n ∧ n ≤ 16) {a : Option Addr} {len cap : Nat} (hl : 100 < len) (w : World) : Calls Try.prog 6 #[.int .i64 (n : Int), .slice a len cap] w fun e w' => e = .returned (.bool true) ∧ Keep (fun _ => False) w w' := by
  have haw := awake_any w
  have dl : (100 : Int) < (len : Int) := by omega
  go_enter Try.func6, Try.ntmps6
  go_wp2_with fail
  refine haw.mono ?_
  rintro e w1 ⟨rfl, K1⟩
  have hnew := new_ok (w := w1) hn.1 hn.2
  clear haw hn
  go_wp2_with fail
  refine hnew.mono ?_
  rintro e w2 ⟨p, g, h, rfl, D⟩
  have K2 := K1.trans D.keep
  clear hnew D
  go_wp2_with fail
  go_ret
  exact ⟨rfl, K2⟩
set_option maxRecDepth 100000 in
set_option maxHeartbeats 2000000 in
theorem last_yes {n : Nat} (hn : 1 ≤ n ∧ n ≤ 16) {a : Option Addr} {len cap : Nat} {w : World} (hA : Acts w a len cap) (hl : len ≤ 100) : Calls Try.prog 6 #[.int .i64 (n : Int), .slice a len cap] w fun e w' => e = .returned (.bool true) ∧ Keep (fun _ => False) w w' := by
  have haw := awake_any w
  have dl : ¬ (100 : Int) < (len : Int) := by omega
  go_enter Try.func6, Try.ntmps6
  go_wp2_with fail
  refine haw.mono ?_
  rintro e w1 ⟨rfl, K1⟩
  have hnew := new_ok (w := w1) hn.1 hn.2
  clear haw
  go_wp2_with fail
  refine hnew.mono ?_
  rintro e w2 ⟨p, g, h, rfl, D⟩
  have D0 : DtK w1 w2 p g h n 0 := ⟨_, D, lb_new n⟩
  clear hnew D
  have hA : Hid (Acts w1 a len cap) := hA.more K1
  have hn' : Hid (1 ≤ n ∧ n ≤ 16) := hn
  have hl' : Hid (len ≤ 100) := hl
  clear hn hl
  go_wp2_with fail
  go_loopw [7, 8, 9, 10, 11, 12] (fun iv _ _ _ _ _ wx => ∃ i : Nat, i ≤ len ∧ iv = .int .i64 (i : Int) ∧ DtK w1 wx p g h n (i : Int)) (fun iv _ _ _ _ _ _ => len - (intOf iv).toNat)
  case atStart => exact ⟨0, by omega, rfl, D0⟩
  case round =>
    clear D0
    obtain ⟨i, hi, rfl, s, D, hb⟩ := hrel
    by_cases hlt : i < len
    · have di : (i : Int) < (len : Int) := by omega
      have hl2 : len ≤ 100 := hl'
      have hn2 : 1 ≤ n ∧ n ≤ 16 := hn'
      have dwi := wrapI (x := (i : Int) + 1) (by omega) (by omega)
      have hlt' : Hid (i < len) := hlt
      have hex := expects_ok D hn2.2
      have hlts := D.lt
      have hLb : Hid (Lb s (i : Int)) := hb
      have hA2 := (show Acts w1 a len cap from hA).more D.keep
      obtain ⟨b, o, x, y, rfl, hx, hy, cx, cy⟩ := hA2.at hlt
      have hbw : b < wr.heap.size := World.block_lt_of_cell? wr _ cx
      have hbw1 : b < w1.heap.size := by
        obtain ⟨b', o', x', y', e, _, _, cx', _⟩ := (show Acts w1 _ len cap from hA).at hlt
        injection e with e
        injection e with e1 e2
        subst e1
        exact World.block_lt_of_cell? w1 _ cx'
      clear hlt hi hb hA2
      go_wp2_with fail
      refine hex.mono ?_
      rintro e w3 ⟨a1, rfl, R3⟩
      have D3 := D.more R3.keep
      have ha1 := R3.block rfl
      have I3 := R3.is
      have sx : w3.cell? ⟨b, o + i * 2, none⟩ = some (.int .i64 x) := by rw [← cx]; exact World.cell?_of_block (w := wr) (a := ⟨b, o + i * 2, none⟩) (R3.keep.block b hbw (fun e => e))
      have sy : w3.cell? ⟨b, o + i * 2 + 1, none⟩ = some (.int .i64 y) := by rw [← cy]; exact World.cell?_of_block (w := wr) (a := ⟨b, o + i * 2 + 1, none⟩) (R3.keep.block b hbw (fun e => e))
      have hS : ∀ w', Keep (fun _ => False) w1 w' → w'.cell? ⟨b, o + i * 2, none⟩ = some (.int .i64 x) ∧ w'.cell? ⟨b, o + i * 2 + 1, none⟩ = some (.int .i64 y) := fun w' k => by
        have e1 : w'.heap[b]? = w3.heap[b]? := (k.block b hbw1 (fun e => e)).trans (D3.keep.block b hbw1 (fun e => e)).symm
        exact ⟨by rw [← sx]; exact World.cell?_of_block (w := w3) (a := ⟨b, o + i * 2, none⟩) e1, by rw [← sy]; exact World.cell?_of_block (w := w3) (a := ⟨b, o + i * 2 + 1, none⟩) e1⟩
      have hS' : Hid (∀ w', Keep (fun _ => False) w1 w' → w'.cell? ⟨b, o + i * 2, none⟩ = some (.int .i64 x) ∧ w'.cell? ⟨b, o + i * 2 + 1, none⟩ = some (.int .i64 y)) := hS
      have K3 := D3.keep
      clear hex D cx cy R3 hS hbw hbw1
      go_wp2_with fail
      by_cases hc : 0 ≤ x ∧ 1 ≤ y ∧ x + y ≤ 1073741824
      · have hb : Lb s (i : Int) := hLb
        have hfd := feed_ok (w := w3.drew) (D3.more ((Keep.refl _ _).drew)) hn2.2 (hb.mono (by omega)) hc
        have hb2 : Hid (Lb (s.feed x y) ((i : Int) + 1)) := lb_feed D3.ok hb (by omega) x y
        have hfe : Hid (∀ j, (s.feed x y).ex.getD j 0 = if j = s.pos x then x + y else s.ex.getD j 0) := fun j => feed_ex D3.ok x y
        have dsum := wrapI (x := x + y) (by omega) (by omega)
        have hoks : Hid (s.ex.length = n) := D3.ok.ex
        clear hLb hb hc hx hy
        go_region_held3 (fun w' => w'.cell? ⟨b, o + i * 2, none⟩ = some (.int .i64 x) ∧ w'.cell? ⟨b, o + i * 2 + 1, none⟩ = some (.int .i64 y)) (first | exact ⟨sx, sy⟩ | exact (show ∀ w', _ → _ from hS') _ D4.keep | exact (by rw [e0]; exact ⟨sx, sy⟩)) ((go_at_call 9; refine hfd.mono ?_; rintro e w4 ⟨rfl, D4, K4⟩))
        have I4 := (I3.more ((Keep.refl (fun _ => False) w3).drew)).keep K4 (fun g' e1 e2 => by injection e1 with e1; injection e1 with e1; unfold DtB at e2; omega)
        have heq : ((0 : Int) != 0) = false := rfl
        clear hfd D3 I3 sx sy K3
        have hex := expects_ok D4 hn2.2
        go_wp2_with fail
        refine hex.mono ?_
        rintro e w5 ⟨a2, rfl, R5⟩
        have D5 := D4.more R5.keep
        have I5 := I4.more R5.keep
        have J5 := R5.is
        have hZ : Hid (∀ wx, Keep (fun _ => False) w5 wx → ∀ j, j < n → wx.cell? ⟨a1, j, none⟩ = some (.int .i64 (s.ex.getD j 0)) ∧ wx.cell? ⟨a2, j, none⟩ = some (.int .i64 ((s.feed x y).ex.getD j 0))) := fun wx k j hj => by
          obtain ⟨g1, e1, c1⟩ := (I5.more k).atS (get_of (l := s.ex) (i := j) (by rw [show s.ex.length = n from hoks]; exact hj))
          obtain ⟨g2, e2, c2⟩ := (J5.more k).atS (get_of (l := (s.feed x y).ex) (i := j) (by rw [D5.ok.ex]; exact hj))
          injection e1 with e1; injection e1 with e1; subst e1
          injection e2 with e2; injection e2 with e2; subst e2
          exact ⟨c1, c2⟩
        have K5 : Hid (Keep (fun _ => False) w1 w5) := D5.keep
        clear hex D4 I4 R5 I5 J5 hlts ha1
        go_wp2_with fail
        go_loopw [12] (fun jv wx => ∃ j : Nat, j ≤ n ∧ jv = .int .i64 (j : Int) ∧ Keep (fun _ => False) w5 wx) (fun jv _ => n - (intOf jv).toNat)
        case atStart => exact ⟨0, by omega, rfl, Keep.refl _ _⟩
        case round =>
          obtain ⟨j, hj, rfl, k1⟩ := hrel
          by_cases hjl : j < n
          · have dj : (j : Int) < (n : Int) := by omega
            have dwj := wrapI (x := (j : Int) + 1) (by omega) (by omega)
            have hjl' : Hid (j < n) := hjl
            obtain ⟨z1, z2⟩ := (show ∀ wx, Keep (fun _ => False) w5 wx → ∀ j, j < n → _ from hZ) _ k1 j hjl
            obtain ⟨y1, y2⟩ := (show ∀ w', _ → _ from hS') _ ((show Keep (fun _ => False) w1 w5 from K5).trans k1)
            rw [show (s.feed x y).ex.getD j 0 = _ from (show ∀ j, _ from hfe) j] at z2
            by_cases hjq : j = s.pos x
            · rw [if_pos hjq] at z2
              have dne : ((j : Int) != ((s.pos x : Nat) : Int)) = false := by rw [bne_eq_false_iff_eq, hjq]
              have dnn : ((x + y) != (x + y)) = false := by rw [bne_eq_false_iff_eq]
              clear hjq hjl
              generalize s.ex.getD j 0 = v1 at z1
              generalize s.pos x = q at dne ⊢
              go_wp2_with fail
              go_quiet (fail)
              go_wp2_with fail
              go_roundw
              case rel => exact ⟨j + 1, hjl', by go_num, k1.drewN _⟩
              case measure => have : j < n := hjl'; simp [intOf]; omega
            · rw [if_neg hjq] at z2
              have dne : ((j : Int) != ((s.pos x : Nat) : Int)) = true := by rw [bne_iff_ne]; omega
              clear hjq hjl
              generalize s.ex.getD j 0 = v1 at z1 z2
              have dnn : (v1 != v1) = false := by rw [bne_eq_false_iff_eq]
              generalize s.pos x = q at dne ⊢
              go_wp2_with fail
              go_quiet (fail)
              go_wp2_with fail
              go_roundw
              case rel => exact ⟨j + 1, hjl', by go_num, k1.drewN _⟩
              case measure => have : j < n := hjl'; simp [intOf]; omega
          · have dj : ¬ (j : Int) < (n : Int) := by omega
            have D6 := D5.more k1
            clear D5 hjl
            go_wp2_with fail
            go_roundw
            case rel => exact ⟨i + 1, hlt', by go_num, _, D6, hb2⟩
            case measure => have : i < len := hlt'; simp [intOf]; omega
      · have hb : Lb s (i : Int) := hLb
        have hfd := feed_no (lba := x) (m := y) (by omega) hx.2 hy.2 (.pointer (some ⟨p, 0, none⟩)) w3.drew
        have hb2 : Hid (Lb s ((i : Int) + 1)) := hb.mono (by omega)
        have hoks : Hid (s.ex.length = n) := D3.ok.ex
        clear hLb hb hc hx hy
        go_region_held3 (fun w' => w'.cell? ⟨b, o + i * 2, none⟩ = some (.int .i64 x) ∧ w'.cell? ⟨b, o + i * 2 + 1, none⟩ = some (.int .i64 y)) (first | exact ⟨sx, sy⟩ | exact (show ∀ w', _ → _ from hS') _ D4.keep | exact (by rw [e0]; exact ⟨sx, sy⟩)) ((go_at_call 9; refine hfd.mono ?_; rintro e w4 ⟨rfl, e0⟩))
        subst e0
        have D4 := D3.more ((Keep.refl (fun _ => False) _).drew)
        have I4 := I3.more ((Keep.refl (fun _ => False) _).drew)
        generalize w3.drew = w4 at D4 I4 ⊢
        clear hfd D3 I3 sx sy K3
        have hex := expects_ok D4 hn2.2
        go_wp2_with fail
        refine hex.mono ?_
        rintro e w5 ⟨a2, rfl, R5⟩
        have D5 := D4.more R5.keep
        have I5 := I4.more R5.keep
        have J5 := R5.is
        have hZ : Hid (∀ wx, Keep (fun _ => False) w5 wx → ∀ j, j < n → wx.cell? ⟨a1, j, none⟩ = some (.int .i64 (s.ex.getD j 0)) ∧ wx.cell? ⟨a2, j, none⟩ = some (.int .i64 (s.ex.getD j 0))) := fun wx k j hj => by
          obtain ⟨g1, e1, c1⟩ := (I5.more k).atS (get_of (l := s.ex) (i := j) (by rw [show s.ex.length = n from hoks]; exact hj))
          obtain ⟨g2, e2, c2⟩ := (J5.more k).atS (get_of (l := s.ex) (i := j) (by rw [D5.ok.ex]; exact hj))
          injection e1 with e1; injection e1 with e1; subst e1
          injection e2 with e2; injection e2 with e2; subst e2
          exact ⟨c1, c2⟩
        have K5 : Hid (Keep (fun _ => False) w1 w5) := D5.keep
        clear hex D4 I4 R5 I5 J5 hlts ha1
        go_wp2_with fail
        go_loopw [12] (fun jv wx => ∃ j : Nat, j ≤ n ∧ jv = .int .i64 (j : Int) ∧ Keep (fun _ => False) w5 wx) (fun jv _ => n - (intOf jv).toNat)
        case atStart => exact ⟨0, by omega, rfl, Keep.refl _ _⟩
        case round =>
          obtain ⟨j, hj, rfl, k1⟩ := hrel
          by_cases hjl : j < n
          · have dj : (j : Int) < (n : Int) := by omega
            have dwj := wrapI (x := (j : Int) + 1) (by omega) (by omega)
            have hjl' : Hid (j < n) := hjl
            obtain ⟨z1, z2⟩ := (show ∀ wx, Keep (fun _ => False) w5 wx → ∀ j, j < n → _ from hZ) _ k1 j hjl
            clear hjl
            generalize s.ex.getD j 0 = v1 at z1 z2
            have dnn : (v1 != v1) = false := by rw [bne_eq_false_iff_eq]
            go_wp2_with fail
            go_quiet (fail)
            go_wp2_with fail
            go_roundw
            case rel => exact ⟨j + 1, hjl', by go_num, k1.drewN _⟩
            case measure => have : j < n := hjl'; simp [intOf]; omega
          · have dj : ¬ (j : Int) < (n : Int) := by omega
            have D6 := D5.more k1
            clear D5 hjl
            go_wp2_with fail
            go_roundw
            case rel => exact ⟨i + 1, hlt', by go_num, _, D6, hb2⟩
            case measure => have : i < len := hlt'; simp [intOf]; omega
    · have di : ¬ (i : Int) < (len : Int) := by omega
      have K2 := K1.trans D.keep
      clear D hlt hi hb
      go_wp2_with fail
      go_ret
      exact ⟨rfl, K2⟩
theorem last_law {n : Int} {a : Option Addr} {len cap : Nat} {w : World} (hA : Acts w a len cap) : Calls Try.prog 6 #[.int .i64 n, .slice a len cap] w fun e w' => e = .returned (.bool true) ∧ Keep (fun _ => False) w w' := by
  by_cases h : n < 1 ∨ 16 < n
  · exact last_no h _ w
  · obtain ⟨m, rfl⟩ : ∃ m : Nat, n = (m : Int) := ⟨n.toNat, by omega⟩
    by_cases hl : len ≤ 100
    · exact last_yes (by omega) hA hl
    · exact last_many (by omega) (by omega) w
end Tg
end Go.Proofs.Ythfbfepaoknmfaa
