/-
  A block's bytes in the document's own flash are made alike: as an erase leaves them.
-/
import Derived.Test.YtjafjofonckaaaaRef
namespace Go.Proofs.Ytjafjofonckaaaa
open Go.ChangeShapes Go.WideShapes Go.ChangeAt Go.RowKit
namespace Nd

theorem Fl.ext_cell {s : Fl} {f g : Nat → Int} (h : ∀ i, f i = g i) : ({ s with cell := f } : Fl) = { s with cell := g } := by
  have : f = g := funext h
  rw [this]

set_option maxHeartbeats 400000 in
theorem rfill_any {w : World} {l : Pl} {s : Fl} {x : Int} {N : Nat} (h : RM w l s x) (ok : s.Ok N) {b : Nat} (hb : b < s.B) (v : Int) (tn : Bool) (hv : (v == 0) = tn) (hv2 : v = if tn then 0 else 255) :
    Calls Try.prog 44 #[.pointer (some ⟨l.p, 0, none⟩), .int .i64 b, .int .u8 v] w fun e w' => e = .returned (.tuple #[]) ∧ RM w' l (s.leave b tn) x ∧ Keep l.own w w' := by
  have b2 := ok.b2
  have p1 := ok.p1
  have p2 := ok.p2
  obtain ⟨t0, t1, t2, t3, t4, t5, t6, t7, t8⟩ := h.tops
  have hm : b * (s.P * 68) ≤ 63 * (32 * 68) := Nat.mul_le_mul (by omega) (by omega)
  have hs : (b + 1) * (s.P * 68) = b * (s.P * 68) + s.P * 68 := by rw [Nat.add_mul, Nat.one_mul]
  have hle : (b + 1) * (s.P * 68) ≤ s.B * s.P * 68 := by rw [Nat.mul_assoc]; exact Nat.mul_le_mul (by omega) (by omega)
  have i1 : (b : Int) * ((s.P : Int) * 68) = ((b * (s.P * 68) : Nat) : Int) := by simp
  have i2 : ((b : Int) + 1) * ((s.P : Int) * 68) = ((b * (s.P * 68) + s.P * 68 : Nat) : Int) := by rw [← hs]; simp
  rw [hs] at hle
  have HE := Fl.leave_eq s b tn v hv2
  have HL : Hid (s.leave b tn = { s with cell := fun i => if b * (s.P * 68) ≤ i ∧ i < b * (s.P * 68) + s.P * 68 then v else s.cell i, torn := fun y => if y = b then tn else s.torn y, next := fun y => if y = b then 0 else s.next y }) := HE
  have HB : Hid (∀ i, i < s.B * s.P * 68 → i < s.B * s.P * 68) := fun _ h => h
  clear hs HE hv2
  generalize b * (s.P * 68) = m at *
  generalize hM : s.B * s.P * 68 = M at t2 hle
  clear HB
  go_enter Try.func44, Try.ntmps44
  go_wp2_with fail
  go_loopw [7] (fun i wr => ∃ q : Nat, q ≤ s.P * 68 ∧ i = .int .i64 (m + q : Nat) ∧ RM wr l { s with cell := fun i => if m ≤ i ∧ i < m + q then v else s.cell i } x ∧ Keep l.own w wr) (fun i _ => m + s.P * 68 - (intOf i).toNat)
  case atStart => exact ⟨0, by omega, rfl, h.congr (by
    have : (fun i => if m ≤ i ∧ i < m + 0 then v else s.cell i) = s.cell := by funext i; rw [if_neg (by omega)]
    rw [this]), Keep.refl _ _⟩
  case round =>
    obtain ⟨q, hq, rfl, hr, hk⟩ := hrel
    clear t0 t1 t2 t3 t4 t5 t6 t7 t8
    obtain ⟨t0, t1, t2, t3, t4, t5, t6, t7, t8⟩ := hr.tops
    simp only [hM] at t2
    by_cases hlt : q < s.P * 68
    · have hcel := hr.cel (m + q) (by simp only [hM]; omega)
      simp only [if_neg (show ¬ (m ≤ m + q ∧ m + q < m + q) by omega)] at hcel
      obtain ⟨hc, hf⟩ := hcel
      have HR := (hr.setCel (m + q) v).congr (t := { s with cell := fun i => if m ≤ i ∧ i < m + (q + 1) then v else s.cell i }) (Fl.ext_cell (fun i => by
        by_cases e : i = m + q
        · rw [if_pos e, if_pos (by omega)]
        · rw [if_neg e]
          show (if m ≤ i ∧ i < m + q then v else s.cell i) = _
          by_cases e2 : m ≤ i ∧ i < m + q
          · rw [if_pos e2, if_pos (by omega)]
          · rw [if_neg e2, if_neg (by omega)]))
      have HK := rky hk (m + q) (.int .u8 v)
      have c1 : ((m : Int) + q) < m + (s.P : Int) * 68 := by omega
      have c2 : ((m : Int) + q) < M := by omega
      have c3 : ((m : Int) + q).toNat = m + q := by omega
      clear hr hk h
      go_wp2_with fail
      go_roundw
      case rel => exact ⟨q + 1, by omega, by go_num, HR, HK⟩
      case measure => simp [intOf]; omega
    · obtain rfl : q = s.P * 68 := by omega
      have hn := hr.next b (by exact hb)
      have ht := hr.torn b (by exact hb)
      have c0 : (b : Int) < s.B := by omega
      have c1 : ¬ ((m : Int) + (s.P : Int) * 68) < m + (s.P : Int) * 68 := by omega
      have HR := ((hr.setNext b 0).setTorn b tn)
      have HK := rkt (rkn hk b (.int .i64 0)) b (.bool tn)
      have hnt := hr.ap.tn
      have hnp := hr.ap.pn
      clear hr hk h
      obtain ⟨hn1, hn2⟩ := hn
      obtain ⟨ht1, ht2⟩ := ht
      go_wp2_with fail
      refine bodyPost_end (results_none rfl _ _ _) rfl ?_
      rw [HL.out]
      exact ⟨rfl, HR, HK⟩
end Nd
end Go.Proofs.Ytjafjofonckaaaa
