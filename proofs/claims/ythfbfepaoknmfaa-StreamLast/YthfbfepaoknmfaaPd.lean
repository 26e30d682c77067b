/-
  The program's use and Feed, walked.
-/
import Derived.Test.YthfbfepaoknmfaaPc
namespace Go.Proofs.Ythfbfepaoknmfaa
open Go.ChangeShapes Go.WideShapes Go.ChangeAt Go.RowKit
namespace Tg
theorem size3' : (Try.prog.info? 3).map (·.size) = some 1 := by kernel_rfl
theorem run_copy_i {w : World} {c N : Nat} {f dd : Nat → Value} (h : Blk w c N f) (o n : Nat) (hn : o + n ≤ N) {a : Addr} (hd : ∀ i, i < n → w.cell? (a.add i) = some (dd i)) (h1 : ∀ i, (dd i).oneCell' = true)
    (dLen dCap sLen sCap : Nat) (hl : Nat.min sLen dLen = n) :
    (Builtin.copy_ #[31, 31] 3 #[.slice (some ⟨c, o, none⟩) dLen dCap, .slice (some a) sLen sCap]).run Try.prog w = .ok (.int .i64 n) (w.setCells c o ((List.range n).map dd)) := by
  have := run_copy_cells (P := Try.prog) w 31 31 3 3 c o dLen dCap a sLen sCap ((List.range n).map dd) Try.underlying31 size3' (by simp [hl])
    (fun j v hv => by
      have hj : j < n := by have := (List.getElem?_eq_some_iff.1 hv).1; simpa using this
      rw [hd j hj, ← hv]; simp [hj])
    (fun j hj => by simp at hj; rw [(h (o + j) (by omega)).1]; rfl) (fun j hj => by simp at hj; exact (h (o + j) (by omega)).2) (fun v hv => by simp at hv; obtain ⟨_, _, rfl⟩ := hv; exact h1 _)
  rw [this]; simp [goInt]
set_option maxRecDepth 100000 in
set_option maxHeartbeats 1000000 in
theorem use_ok {w0 w : World} {p g h n : Nat} {s : St} (d : Dt w0 w p g h n s) (hn : n ≤ 16) {k : Nat} (hk : k < n) :
    Calls Try.prog 15 #[.pointer (some ⟨p, 0, none⟩), .int .i64 (k : Int)] w fun e w' => e = .returned (.int .i64 ((s.od.getD k 0 : Nat) : Int)) ∧ Dr w0 w' p g h n (sc s) (fun i => if i = n - 1 then oc s k else if k ≤ i ∧ i < k + (n - 1 - k) then oc s (i + 1) else oc s i) ∧ Keep (DtB g h) w w' := by
  have t1 := d.t1
  have n1 := d.le
  obtain ⟨u1, -⟩ := d.use hk
  have D := d.dr
  have dk : (k : Int) < (n : Int) := by omega
  have dk0 : ¬ (k : Int) < 0 := by omega
  have dw := wrapI (x := (k : Int) + 1) (by omega) (by omega)
  have ocu : oc s k = .int .i64 ((s.od.getD k 0 : Nat) : Int) := rfl
  generalize hx : s.od.getD k 0 = x at u1 ocu ⊢
  rw [ocu]
  clear d ocu hx
  have D := D.more ((Keep.refl (fun _ => False) w).drew)
  have K0 := (Keep.refl (DtB g h) w).drew
  have hm := wrapI (x := (n : Int) - 1) (by omega) (by omega)
  obtain ⟨m, rfl⟩ : ∃ m, n = m + 1 := ⟨n - 1, by omega⟩
  have dn : IntKind.i64.wrap (((m + 1 : Nat) : Int) - 1) = (m : Int) := by rw [hm]; omega
  have dm : (m : Int) < ((m + 1 : Nat) : Int) := by omega
  rw [Nat.add_sub_cancel]
  clear hm
  obtain ⟨n, hnm⟩ : ∃ n, n = m + 1 := ⟨_, rfl⟩
  rw [← hnm] at t1 D dk dn dm hk hn n1 ⊢
  have hnm' : n = m + 1 := hnm
  have hnmH : Hid (n = m + 1) := hnm
  clear hnm
  have h2 : ¬ n = k := by omega
  by_cases hl : k < m
  · have hcp := run_copy_i D.od k (m - k) (by omega) (a := ⟨h, k + 1, none⟩) (dd := fun i => oc s (k + 1 + i)) (fun i hi => by rw [Addr.add_lit]; exact (D.od (k + 1 + i) (by omega)).1) (fun _ => rfl) (n - k) (n - k) (n - (k + 1)) (n - (k + 1)) (by unfold Nat.min; omega)
    have h3 : ¬ n = k + 1 := by omega
    have h4 : k + 1 ≤ n := by omega
    have h5 : (k : Int) + 1 ≤ (n : Int) := by omega
    have D2 := D.copyH k (m - k) (fun i => oc s (k + 1 + i)) (by omega)
    have K2 := K0.setCells (b := h) (Or.inl (Or.inr rfl)) k ((List.range (m - k)).map fun i => oc s (k + 1 + i))
    clear D K0 hnm' hl hk hn
    go_enter Try.func15, Try.ntmps15
    go_upto_region 2 with fail
    go_region
    clear hcp
    generalize w.drew.setCells h k ((List.range (m - k)).map fun i => oc s (k + 1 + i)) = w2 at D2 K2 ⊢
    have y1 : w2.cell? ⟨p, 1, none⟩ = some (.slice (some ⟨h, 0, none⟩) n n) := (D2.top 1 (by omega)).1
    obtain ⟨c2, f2⟩ := D2.od m (by have : n = m + 1 := hnmH; omega)
    generalize (if k ≤ m ∧ m < k + (m - k) then oc s (k + 1 + (m - k)) else oc s m) = y at c2
    have D3 := (D2.setH m (.int .i64 (x : Int))).more ((Keep.refl (fun _ => False) _).drew)
    have K3 := (K2.setCell (p := ⟨h, m, none⟩) (Or.inl (Or.inr rfl)) (.int .i64 (x : Int))).drew
    clear D2 K2 t1 u1
    go_upto_region 3 with fail
    go_region
    generalize (w2.setCell ⟨h, m, none⟩ (.int .i64 (x : Int))).drew = w3 at D3 K3 ⊢
    go_wp2_with fail
    go_ret
    refine ⟨rfl, D3.congr (fun _ _ => rfl) (fun i hi => ?_), K3⟩
    by_cases e : i = m
    · rw [if_pos e, if_pos e]
    · rw [if_neg e, if_neg e]
      by_cases e2 : k ≤ i ∧ i < k + (m - k)
      · rw [if_pos e2, if_pos e2, show k + 1 + (i - k) = i + 1 by omega]
      · rw [if_neg e2, if_neg e2]
  · obtain rfl : m = k := by omega
    have hcp := run_copy_none (P := Try.prog) w.drew 31 31 3 3 (some ⟨h, m, none⟩) (some ⟨h, 0, none⟩) 1 1 0 0 Try.underlying31 size3' rfl
    have h6 : n - m = 1 := by omega
    have dwm := wrapI (x := (m : Int)) (by omega) (by omega)
    have h7 : n - (m + 1) = 0 := by omega
    have h8 : (m : Int) + 1 ≤ (n : Int) := by omega
    have D2 := D
    have K2 := K0
    clear D K0 hl hk hn
    go_enter Try.func15, Try.ntmps15
    go_upto_region 2 with fail
    go_region
    clear hcp
    generalize w.drew = w2 at D2 K2 ⊢
    clear hnmH
    subst hnm'
    have y1 : w2.cell? ⟨p, 1, none⟩ = some (.slice (some ⟨h, 0, none⟩) (m + 1) (m + 1)) := (D2.top 1 (by omega)).1
    obtain ⟨c2, f2⟩ := D2.od m (by omega)
    generalize oc s m = y at c2
    have D3 := (D2.setH m (.int .i64 (x : Int))).more ((Keep.refl (fun _ => False) _).drew)
    have K3 := (K2.setCell (p := ⟨h, m, none⟩) (Or.inl (Or.inr rfl)) (.int .i64 (x : Int))).drew
    clear D2 K2 t1 u1
    go_upto_region 3 with fail
    go_region
    generalize (w2.setCell ⟨h, m, none⟩ (.int .i64 (x : Int))).drew = w3 at D3 K3 ⊢
    go_wp2_with fail
    go_ret
    refine ⟨rfl, D3.congr (fun _ _ => rfl) (fun i hi => ?_), K3⟩
    by_cases e : i = m
    · rw [if_pos e, if_pos e]
    · rw [if_neg e, if_neg e, if_neg (by omega)]
end Tg
end Go.Proofs.Ythfbfepaoknmfaa
