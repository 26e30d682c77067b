/-
  The program's Feed, walked.
-/
import Derived.Test.YthfbfepaoknmfaaPd
namespace Go.Proofs.Ythfbfepaoknmfaa
open Go.ChangeShapes Go.WideShapes Go.ChangeAt Go.RowKit
namespace Tg
theorem getD_setI (l : List Int) (i j : Nat) (v : Int) (h : i < l.length) : (l.set i v).getD j 0 = if j = i then v else l.getD j 0 := getD_set l i j v h
theorem sc_feed {s : St} {n : Nat} (ho : s.Ok n) {lba m L : Int} (hL : s.len lba = L) (i : Nat) : (if i = s.pos lba * 2 then Value.int .i64 (lba + m) else if i = s.pos lba * 2 + 1 then .int .i64 L else sc s i) = sc (s.feed lba m) i := by
  have hp := ho.pos_lt lba
  have h1 : s.pos lba < s.ex.length := by rw [ho.ex]; exact hp
  have h2 : s.pos lba < s.lg.length := by rw [ho.lg]; exact hp
  unfold sc St.feed
  simp only
  rw [getD_setI _ _ _ _ h1, getD_setI _ _ _ _ h2, hL]
  by_cases e : i % 2 = 0
  · rw [if_pos e, if_pos e]
    by_cases e2 : i / 2 = s.pos lba
    · rw [if_pos (by omega), if_pos e2]
    · rw [if_neg (by omega), if_neg (by omega), if_neg e2]
  · rw [if_neg e, if_neg e]
    by_cases e2 : i / 2 = s.pos lba
    · rw [if_neg (by omega), if_pos (by omega), if_pos e2]
    · rw [if_neg (by omega), if_neg (by omega), if_neg e2]
theorem oc_feed {s : St} {n : Nat} (ho : s.Ok n) {lba m : Int} {k : Nat} (hk : k < n) (hp : s.pos lba = s.od.getD k 0) {i : Nat} (hi : i < n) : (if i = n - 1 then oc s k else if k ≤ i ∧ i < k + (n - 1 - k) then oc s (i + 1) else oc s i) = oc (s.feed lba m) i := by
  have hu := use_at ho.nd (k := k) (by rw [ho.odl]; exact hk) (i := i) (by rw [ho.odl]; exact hi)
  rw [ho.odl] at hu
  unfold oc St.feed
  simp only
  rw [hp, hu]
  by_cases e : i = n - 1
  · rw [if_pos e, if_pos e]
  · rw [if_neg e, if_neg e]
    by_cases e2 : k ≤ i ∧ i < k + (n - 1 - k)
    · rw [if_pos e2, if_pos e2]
    · rw [if_neg e2, if_neg e2]
set_option maxRecDepth 100000 in
set_option maxHeartbeats 1000000 in
theorem feed_no {lba m : Int} (hk : lba < 0 ∨ m < 1 ∨ 1073741824 < lba + m) (hb : lba ≤ 9223372036854775807) (hm : m ≤ 9223372036854775807) (v : Value) (w : World) :
    Calls Try.prog 9 #[v, .int .i64 lba, .int .i64 m] w fun e w' => e = .returned (.tuple #[.int .i64 0, .int .i64 1]) ∧ w' = w := by
  go_enter Try.func9, Try.ntmps9
  by_cases h1 : lba < 0
  · clear hk
    go_wp2_with fail
    go_ret2
    exact ⟨rfl, rfl⟩
  · by_cases h2 : m < 1
    · clear hk
      go_wp2_with fail
      go_ret2
      exact ⟨rfl, rfl⟩
    · have h3 : 1073741824 - lba < m := by omega
      have dw := wrapI (x := 1073741824 - lba) (by omega) (by omega)
      clear hk
      go_wp2_with fail
      go_ret2
      exact ⟨rfl, rfl⟩
set_option maxRecDepth 100000 in
set_option maxHeartbeats 1000000 in
theorem feed_ok {w0 w : World} {p g h n : Nat} {s : St} (d : Dt w0 w p g h n s) (hn : n ≤ 16) (hlg : ∀ i, 0 ≤ s.lg.getD i 0 ∧ s.lg.getD i 0 ≤ 1000000) {lba m : Int} (hc : 0 ≤ lba ∧ 1 ≤ m ∧ lba + m ≤ 1073741824) :
    Calls Try.prog 9 #[.pointer (some ⟨p, 0, none⟩), .int .i64 lba, .int .i64 m] w fun e w' => e = .returned (.tuple #[.int .i64 (s.pos lba : Int), .int .i64 0]) ∧ Dt w0 w' p g h n (s.feed lba m) ∧ Keep (DtB g h) w w' := by
  have d1 : ¬ lba < 0 := by omega
  have d2 : ¬ m < 1 := by omega
  have d3 : ¬ 1073741824 - lba < m := by omega
  have dw := wrapI (x := 1073741824 - lba) (by omega) (by omega)
  have ds := wrapI (x := lba + m) (by omega) (by omega)
  have hfi := find_ok d hn lba
  have hok := d.ok
  have hus := fun {w1 : World} (K : Keep (fun _ => False) w w1) {k : Nat} (hk : k < n) => use_ok (d.more K) hn hk
  clear d
  go_enter Try.func9, Try.ntmps9
  go_wp2_with fail
  refine hfi.mono ?_
  rintro e w1 ⟨k, rfl, hk, hA, K1⟩
  have hus := hus K1 hk
  have hpa := pos_at (by rw [hok.odl]; exact hk) hA.1 hA.2
  obtain ⟨hpos, hlen⟩ := hpa
  have hq : s.od.getD k 0 < n := hok.od_lt hk
  have hOF : Hid (∀ i, i < n → (if i = n - 1 then oc s k else if k ≤ i ∧ i < k + (n - 1 - k) then oc s (i + 1) else oc s i) = oc (s.feed lba m) i) := fun i hi => oc_feed hok hk hpos hi
  have hSF : Hid (∀ i, (if i = s.pos lba * 2 then Value.int .i64 (lba + m) else if i = s.pos lba * 2 + 1 then .int .i64 (s.len lba) else sc s i) = sc (s.feed lba m) i) := fun i => sc_feed hok rfl i
  have hokf : Hid ((s.feed lba m).Ok n) := hok.feed lba m
  rw [hlen] at hSF
  rw [hpos] at hSF
  have hpH : Hid (s.pos lba = s.od.getD k 0) := hpos
  have hlk := hlg (s.od.getD k 0)
  have hex : s.ex[s.od.getD k 0]? = some (s.ex.getD (s.od.getD k 0) 0) := get_of (by rw [hok.ex]; exact hq)
  have hsc0 : sc s (s.od.getD k 0 * 2) = .int .i64 (s.ex.getD (s.od.getD k 0) 0) := by unfold sc; rw [if_pos (by omega), show s.od.getD k 0 * 2 / 2 = s.od.getD k 0 by omega]
  have hsc1 : sc s (s.od.getD k 0 * 2 + 1) = .int .i64 (s.lg.getD (s.od.getD k 0) 0) := by unfold sc; rw [if_neg (by omega), show (s.od.getD k 0 * 2 + 1) / 2 = s.od.getD k 0 by omega]
  rw [hex] at hSF
  clear hlen hpos hA hfi hlg hex hok
  generalize s.od.getD k 0 = q at *
  generalize s.ex.getD q 0 = x at *
  generalize s.lg.getD q 0 = y at *
  have dq : (q : Int) < (n : Int) := by omega
  go_wp2_with fail
  refine hus.mono ?_
  rintro e w2 ⟨rfl, D2, K2⟩
  have K2 := (K1.mono (T := DtB g h) (fun _ _ e => e.elim)).trans K2
  have t0 : w2.cell? ⟨p, 0, none⟩ = some (.slice (some ⟨g, 0, none⟩) n n) := (D2.top 0 (by omega)).1
  obtain ⟨c0, f0⟩ := D2.st (q * 2) (by omega)
  obtain ⟨c1, f1⟩ := D2.st (q * 2 + 1) (by omega)
  rw [hsc0] at c0
  rw [hsc1] at c1
  clear hus hsc0 hsc1
  by_cases hx : x = lba
  · subst hx
    rw [if_pos rfl] at hSF
    have dy := wrapI (x := y + 1) (by omega) (by omega)
    have D3 := (D2.setG (q * 2 + 1) (.int .i64 (y + 1))).setG (q * 2) (.int .i64 (x + m))
    have K3 := (K2.setCell (p := ⟨g, q * 2 + 1, none⟩) (Or.inl (Or.inl rfl)) (.int .i64 (y + 1))).setCell (p := ⟨g, q * 2, none⟩) (Or.inl (Or.inl rfl)) (.int .i64 (x + m))
    clear D2 K2
    go_wp2_with fail
    go_ret2
    exact ⟨by rw [show s.pos _ = q from hpH]; rfl, D3.dt hokf (fun i _ => hSF i) (fun i hi => hOF i hi), K3⟩
  · have hx2 : ¬ some x = some lba := fun e => hx (by injection e)
    rw [if_neg hx2] at hSF
    have D3 := (D2.setG (q * 2 + 1) (.int .i64 1)).setG (q * 2) (.int .i64 (lba + m))
    have K3 := (K2.setCell (p := ⟨g, q * 2 + 1, none⟩) (Or.inl (Or.inl rfl)) (.int .i64 1)).setCell (p := ⟨g, q * 2, none⟩) (Or.inl (Or.inl rfl)) (.int .i64 (lba + m))
    clear D2 K2 hx2
    go_wp2_with fail
    go_ret2
    exact ⟨by rw [show s.pos _ = q from hpH]; rfl, D3.dt hokf (fun i _ => hSF i) (fun i hi => hOF i hi), K3⟩
end Tg
end Go.Proofs.Ythfbfepaoknmfaa
