/-
  What Set and Clear answer and leave.
-/
import Derived.Test.YtbdankhlbepjoaaLayW
namespace Go.Proofs.Ytbdankhlbepjoaa
open Go.ChangeShapes Go.WideShapes Go.ChangeAt Go.RowKit
namespace Tg

/-- What a change answers and leaves: it is done, or there are too many runs. -/
def Did (w wa : World) (q b p k N cap : Nat) (m' : List Rn) (e : Ending) (w' : World) : Prop :=
  (m'.length ≤ N ∧ e = .returned (.int .i64 0) ∧ Mp w w' q b p k N cap m' ∧ Keep (Own3 b p k) wa w') ∨ (N < m'.length ∧ e = .returned (.int .i64 5) ∧ Keep (fun _ => False) wa w')

set_option maxRecDepth 100000 in
theorem set_no {w wa : World} {q b p k N cap : Nat} {m : List Rn} (h : Mp w wa q b p k N cap m) {lba n phys : Int} (hl : lba ≤ 9223372036854775807) (hno : okR (cap : Int) lba n = false ∨ phys < 0 ∨ 1048576 < phys) :
    Calls Try.prog 16 #[.pointer (some ⟨q, 0, none⟩), .int .i64 lba, .int .i64 n, .int .i64 phys] wa fun e w' => e = .returned (.int .i64 1) ∧ Keep (fun _ => False) wa w' := by
  have hr := right_any h lba n hl
  have K0 := Keep.refl (fun _ => False) wa
  clear h
  cases hok : okR (cap : Int) lba n with
  | false =>
    rw [hok] at hr
    clear hno
    go_enter Try.func16, Try.ntmps16
    go_wp2_with (go_at_call 40; refine hr.mono ?_; rintro e w1 ⟨rfl, rfl⟩)
    go_ret
    exact ⟨rfl, K0⟩
  | true =>
    rw [hok] at hr hno
    by_cases c : phys < 0
    · clear hno
      go_enter Try.func16, Try.ntmps16
      go_wp2_with (go_at_call 40; refine hr.mono ?_; rintro e w1 ⟨rfl, rfl⟩)
      go_ret
      exact ⟨rfl, K0⟩
    · have c2 : 1048576 < phys := by rcases hno with h | h | h; cases h; omega; exact h
      clear hno
      go_enter Try.func16, Try.ntmps16
      go_wp2_with (go_at_call 40; refine hr.mono ?_; rintro e w1 ⟨rfl, rfl⟩)
      go_ret
      exact ⟨rfl, K0⟩
set_option maxRecDepth 100000 in
theorem clear_no {w wa : World} {q b p k N cap : Nat} {m : List Rn} (h : Mp w wa q b p k N cap m) {lba n : Int} (hl : lba ≤ 9223372036854775807) (hno : okR (cap : Int) lba n = false) :
    Calls Try.prog 17 #[.pointer (some ⟨q, 0, none⟩), .int .i64 lba, .int .i64 n] wa fun e w' => e = .returned (.int .i64 1) ∧ Keep (fun _ => False) wa w' := by
  have hr := right_any h lba n hl
  have K0 := Keep.refl (fun _ => False) wa
  rw [hno] at hr
  clear h
  go_enter Try.func17, Try.ntmps17
  go_wp2_with (go_at_call 40; refine hr.mono ?_; rintro e w1 ⟨rfl, rfl⟩)
  go_ret
  exact ⟨rfl, K0⟩

set_option maxRecDepth 100000 in
set_option maxHeartbeats 1000000 in
theorem set_map {w wa : World} {q b p k N cap : Nat} {m : List Rn} (h : Mp w wa q b p k N cap m) {r : Rn} (h0 : 0 ≤ r.lba) (h1 : 1 ≤ r.len) (h2 : r.lba + r.len ≤ (cap : Int)) (h3 : 0 ≤ r.phys) (h4 : r.phys ≤ 1048576) :
    Calls Try.prog 16 #[.pointer (some ⟨q, 0, none⟩), .int .i64 r.lba, .int .i64 r.len, .int .i64 r.phys] wa (Did w wa q b p k N cap (setL r m)) := by
  have hcap := h.cap2
  have hr := right_any h r.lba r.len (by omega)
  rw [okR_iff.2 ⟨h1, h0, by omega⟩] at hr
  have hro : r.Ok := ⟨h0, h1, h3⟩
  have hf : r.fin = r.lba + r.len := rfl
  obtain ⟨A, F, B, hL⟩ := laid (lo := r.lba) (hi := r.fin) (cap := (cap : Int)) (ins := [r]) h0 (by rw [hf]; omega) h.form (fun x hx => (h.lim x hx).1) (Form.single hro) (fun x hx => by simp at hx; subst hx; exact ⟨Int.le_refl _, Int.le_refl _⟩)
  have hE := hL.set hro h.form
  have hlim : Lim (cap : Int) 1049088 (A ++ F ++ B) := by
    rw [hE]
    have := h.lim.chg h.form (x := r) h0 h1 (by rw [hf]; exact h2) (fun _ => by omega)
    rwa [chg, if_neg (by omega)] at this
  have K1 : Keep (fun _ => False) wa (wa.alloc (.cells (rnA r) 55)) := (Keep.refl _ _).alloc _
  have rI : Rs (wa.alloc (.cells (rnA r) 55)) (some ⟨wa.heap.size, 0, none⟩) 1 [r] := ⟨by simp, by omega, Or.inr ⟨_, rfl, fun j u hu => by have := cells_new wa (rnA r) 55 j u (by rw [rnA_lit]; simpa [rcells, rcs] using hu); rwa [Addr.add_lit, Nat.zero_add] at this⟩⟩
  have hlay := lay_any (h.more K1) h0 (by rw [hf]; omega) (by rw [hf]; exact h2) hL (fun x hx => by simp at hx; subst hx; unfold Bd; omega) (by simp) hlim rI
  rw [hE, hf, List.length_singleton] at hlay
  have d1 := wrapI (x := r.lba + r.len) (by omega) (by omega)
  have hlay' := hlay.mono (R' := Did w wa q b p k N cap (setL r m)) (by
    rintro e w' (⟨a1, a2, a3, a4⟩ | ⟨a1, a2, a3⟩)
    · exact Or.inl ⟨a1, a2, a3, (K1.mono (fun _ _ e => e.elim)).trans a4⟩
    · exact Or.inr ⟨a1, a2, K1.trans a3⟩)
  rw [rnA_lit] at hlay'
  clear h hL hE hlim K1 rI hlay hro hf
  have p1 : ¬ r.phys < 0 := by omega
  have p2 : ¬ 1048576 < r.phys := by omega
  go_enter Try.func16, Try.ntmps16
  go_wp2_with (first | (go_at_call 40; refine hr.mono ?_; rintro e w1 ⟨rfl, rfl⟩) | (go_at_call 41; refine hlay'.mono ?_; rintro e w1 hD; rcases hD with ⟨a1, rfl, a3, a4⟩ | ⟨a1, rfl, a3⟩))
  · go_ret
    exact Or.inl ⟨a1, rfl, a3, a4⟩
  · go_wp2_with fail
    go_ret
    exact Or.inr ⟨a1, rfl, a3⟩
set_option maxRecDepth 100000 in
set_option maxHeartbeats 1000000 in
theorem clear_map {w wa : World} {q b p k N cap : Nat} {m : List Rn} (h : Mp w wa q b p k N cap m) {lba n : Int} (h0 : 0 ≤ lba) (h1 : 1 ≤ n) (h2 : lba + n ≤ (cap : Int)) :
    Calls Try.prog 17 #[.pointer (some ⟨q, 0, none⟩), .int .i64 lba, .int .i64 n] wa (Did w wa q b p k N cap (clearL lba (lba + n) m)) := by
  have hcap := h.cap2
  have hr := right_any h lba n (by omega)
  rw [okR_iff.2 ⟨h1, h0, by omega⟩] at hr
  obtain ⟨A, F, B, hL⟩ := laid (lo := lba) (hi := lba + n) (cap := (cap : Int)) (ins := []) h0 (by omega) h.form (fun x hx => (h.lim x hx).1) Form.nil (by simp)
  have hE := hL.clear h0 (by omega) h.form
  have hlim : Lim (cap : Int) 1049088 (A ++ F ++ B) := by
    rw [hE]
    have := h.lim.chg h.form (x := ⟨lba, n, -1⟩) h0 h1 h2 (fun c => by simp at c)
    rwa [chg, if_pos (by simp)] at this
  have rI : Rs wa none 0 [] := ⟨by simp, by omega, Or.inl rfl⟩
  have hlay := lay_any h h0 (by omega) h2 hL (by simp) (by simp) hlim rI
  rw [hE, List.length_nil] at hlay
  have d1 := wrapI (x := lba + n) (by omega) (by omega)
  have hlay' := hlay.mono (R' := Did w wa q b p k N cap (clearL lba (lba + n) m)) (fun e w' h => h)
  clear h hL hE hlim rI hlay
  go_enter Try.func17, Try.ntmps17
  go_wp2_with (first | (go_at_call 40; refine hr.mono ?_; rintro e w1 ⟨rfl, rfl⟩) | (go_at_call 41; refine hlay'.mono ?_; rintro e w1 hD; rcases hD with ⟨a1, rfl, a3, a4⟩ | ⟨a1, rfl, a3⟩))
  · go_ret
    exact Or.inl ⟨a1, rfl, a3, a4⟩
  · go_wp2_with fail
    go_ret
    exact Or.inr ⟨a1, rfl, a3⟩
end Tg
end Go.Proofs.Ytbdankhlbepjoaa
