/-
  What the small functions of the program's flash answer and do: walked over any memory in which a flash lies.
-/
import Derived.Test.YtjafjofonckaaaaMem
import Derived.BigQuiet
import Derived.BigRegion
namespace Go.Proofs.Ytjafjofonckaaaa
open Go.ChangeShapes Go.WideShapes Go.ChangeAt Go.RowKit
namespace Nd

theorem ret_bool {a b : Bool} (h : a = b) : Ending.returned (.bool a) = .returned (.bool b) := by rw [h]

theorem ret_i64 {a b : Int} (h : a = b) : Ending.returned (.int .i64 a) = .returned (.int .i64 b) := by rw [h]

theorem ret_len {a : Option Addr} {l m c : Nat} (h : l = m) : Ending.returned (.slice a l c) = .returned (.slice a m c) := by rw [h]

theorem Keep.p {p c k : Nat} {a w : World} (h : Keep (Own p c k) a w) (j : Nat) (v : Value) : Keep (Own p c k) a (w.setCell ⟨p, j, none⟩ v) := h.setCell (Or.inl (Or.inl rfl)) v
theorem Keep.k {p c k : Nat} {a w : World} (h : Keep (Own p c k) a w) (j : Nat) (v : Value) : Keep (Own p c k) a (w.setCell ⟨k, j, none⟩ v) := h.setCell (Or.inl (Or.inr (Or.inr rfl))) v
theorem Keep.c {p c k : Nat} {a w : World} (h : Keep (Own p c k) a w) (j : Nat) (v : Value) : Keep (Own p c k) a (w.setCell ⟨c, j, none⟩ v) := h.setCell (Or.inl (Or.inr (Or.inl rfl))) v

theorem on_any {w : World} {p c k : Nat} {s : Fl} (h : Mem w p c k s) :
    Calls Try.prog 14 #[.pointer (some ⟨p, 0, none⟩)] w fun e w' => e = .returned (.tuple #[]) ∧ Mem w' p c k s.turnOn ∧ Keep (Own p c k) w w' := by
  obtain ⟨t0, t1, t2, t3, t4, t5⟩ := h.tops
  have f3 := h.free 3 (by omega)
  have f4 := h.free 4 (by omega)
  go_enter Try.func14, Try.ntmps14
  go_wp2
  refine bodyPost_end (results_none rfl _ _ _) rfl ?_
  exact ⟨rfl, (h.setOff false).setCut (-1), ((Keep.refl _ _).p _ _).p _ _⟩

theorem cut_any {w : World} {p c k : Nat} {s : Fl} (h : Mem w p c k s) (n : Int) :
    Calls Try.prog 12 #[.pointer (some ⟨p, 0, none⟩), .int .i64 n] w fun e w' => e = .returned (.tuple #[]) ∧ Mem w' p c k (s.setCut n) ∧ Keep (Own p c k) w w' := by
  obtain ⟨t0, t1, t2, t3, t4, t5⟩ := h.tops
  have f4 := h.free 4 (by omega)
  have H := h
  go_enter Try.func12, Try.ntmps12
  go_wp2
  all_goals
    refine bodyPost_end (results_none rfl _ _ _) rfl ?_
    exact ⟨rfl, (H.setCut _).congr (by simp [Fl.setCut]; omega), ((Keep.refl _ _).p _ _)⟩
theorem fail_any {w : World} {p c k : Nat} {s : Fl} (h : Mem w p c k s) (n : Int) :
    Calls Try.prog 22 #[.pointer (some ⟨p, 0, none⟩), .int .i64 n] w fun e w' => e = .returned (.tuple #[]) ∧ Mem w' p c k (s.setFail n) ∧ Keep (Own p c k) w w' := by
  obtain ⟨t0, t1, t2, t3, t4, t5⟩ := h.tops
  have f4 := h.free 5 (by omega)
  have H := h
  go_enter Try.func22, Try.ntmps22
  go_wp2
  all_goals
    refine bodyPost_end (results_none rfl _ _ _) rfl ?_
    exact ⟨rfl, (H.setFail _).congr (by simp [Fl.setFail]; omega), ((Keep.refl _ _).p _ _)⟩

theorem dec_beq (n : Int) : (n - 1 == -1) = (n == 0) := by rw [Bool.eq_iff_iff]; simp; omega

theorem step_any {w : World} {p c k : Nat} {s : Fl} (h : Mem w p c k s) (hon : s.on = true) (hc : -1 ≤ s.cut ∧ s.cut ≤ 9223372036854775807) :
    Calls Try.prog 39 #[.pointer (some ⟨p, 0, none⟩)] w fun e w' => e = .returned (.bool s.stepOk) ∧ Mem w' p c k s.step ∧ Keep (Own p c k) w w' := by
  obtain ⟨t0, t1, t2, t3, t4, t5⟩ := h.tops
  have f3 := h.free 3 (by omega)
  have f4 := h.free 4 (by omega)
  by_cases e1 : s.cut = -1
  · go_enter Try.func39, Try.ntmps39
    go_wp2
    go_ret
    exact ⟨ret_bool (by simp [Fl.stepOk, e1]), h.congr (by simp [Fl.step, e1]), Keep.refl _ _⟩
  · go_enter Try.func39, Try.ntmps39
    go_wp2
    go_ret
    refine ⟨ret_bool ?_, ((h.setCut _).setOff _).congr ?_, ((Keep.refl _ _).p _ _).p _ _⟩
    · simp [Fl.stepOk, dec_beq]
    · by_cases e0 : s.cut = 0
      · simp [Fl.step, e0]
      · simp [Fl.step, e0, e1, dec_beq, hon]

theorem fails_any {w : World} {p c k : Nat} {s : Fl} (h : Mem w p c k s) (hc : -1 ≤ s.fail ∧ s.fail ≤ 9223372036854775807) :
    Calls Try.prog 36 #[.pointer (some ⟨p, 0, none⟩)] w fun e w' => e = .returned (.bool s.failB) ∧ Mem w' p c k s.failed ∧ Keep (Own p c k) w w' := by
  obtain ⟨t0, t1, t2, t3, t4, t5⟩ := h.tops
  have f5 := h.free 5 (by omega)
  by_cases e1 : s.fail = -1
  · go_enter Try.func36, Try.ntmps36
    go_wp2
    go_ret
    exact ⟨ret_bool (by simp [Fl.failB, e1]), h.congr (by simp [Fl.failed, e1]), Keep.refl _ _⟩
  · go_enter Try.func36, Try.ntmps36
    go_wp2
    go_ret
    refine ⟨ret_bool ?_, (h.setFail _).congr ?_, (Keep.refl _ _).p _ _⟩
    · simp [Fl.failB, dec_beq]
    · simp [Fl.failed, e1]

theorem has_yes {w : World} {p c k : Nat} {s : Fl} (h : Mem w p c k s) {b : Nat} (hb : b < s.B) :
    Calls Try.prog 38 #[.pointer (some ⟨p, 0, none⟩), .int .i64 b] w fun e w' => e = .returned (.bool true) ∧ w' = w := by
  obtain ⟨t0, t1, t2, t3, t4, t5⟩ := h.tops
  go_enter Try.func38, Try.ntmps38
  go_wp2
  go_ret
  exact ⟨ret_bool (by simp), rfl⟩
theorem has_no {w : World} {p c k : Nat} {s : Fl} (h : Mem w p c k s) {n : Int} (hb : n < 0 ∨ s.B ≤ n) :
    Calls Try.prog 38 #[.pointer (some ⟨p, 0, none⟩), .int .i64 n] w fun e w' => e = .returned (.bool false) ∧ w' = w := by
  obtain ⟨t0, t1, t2, t3, t4, t5⟩ := h.tops
  by_cases h0 : 0 ≤ n
  · go_enter Try.func38, Try.ntmps38
    go_wp2
    go_ret
    exact ⟨ret_bool (by simp; omega), rfl⟩
  · go_enter Try.func38, Try.ntmps38
    go_wp2
    go_ret
    exact ⟨rfl, rfl⟩

theorem next_any {w : World} {p c k : Nat} {s : Fl} (h : Mem w p c k s) {b : Nat} (hb : b < s.B) :
    Calls Try.prog 24 #[.pointer (some ⟨p, 0, none⟩), .int .i64 b] w fun e w' => e = .returned (.tuple #[.int .i64 (s.next b), .int .i64 0]) ∧ w' = w := by
  obtain ⟨t0, t1, t2, t3, t4, t5⟩ := h.tops
  obtain ⟨b0, b1, b2, b3, g0, g1, g2, g3⟩ := h.at hb
  have H := has_yes h hb
  go_enter Try.func24, Try.ntmps24
  go_wp2_with (go_at_call 38; refine H.mono ?_; rintro e w' ⟨rfl, rfl⟩)
  go_ret2
  exact ⟨rfl, rfl⟩
theorem next_no {w : World} {p c k : Nat} {s : Fl} (h : Mem w p c k s) {n : Int} (hb : n < 0 ∨ s.B ≤ n) :
    Calls Try.prog 24 #[.pointer (some ⟨p, 0, none⟩), .int .i64 n] w fun e w' => e = .returned (.tuple #[.int .i64 0, .int .i64 1]) ∧ w' = w := by
  have H := has_no h hb
  go_enter Try.func24, Try.ntmps24
  go_wp2_with (go_at_call 38; refine H.mono ?_; rintro e w' ⟨rfl, rfl⟩)
  go_ret2
  exact ⟨rfl, rfl⟩
theorem bad_any {w : World} {p c k : Nat} {s : Fl} (h : Mem w p c k s) {b : Nat} (hb : b < s.B) :
    Calls Try.prog 31 #[.pointer (some ⟨p, 0, none⟩), .int .i64 b] w fun e w' => e = .returned (.tuple #[.bool (s.bad b), .int .i64 0]) ∧ w' = w := by
  obtain ⟨t0, t1, t2, t3, t4, t5⟩ := h.tops
  obtain ⟨b0, b1, b2, b3, g0, g1, g2, g3⟩ := h.at hb
  have H := has_yes h hb
  go_enter Try.func31, Try.ntmps31
  go_wp2_with (go_at_call 38; refine H.mono ?_; rintro e w' ⟨rfl, rfl⟩)
  go_ret2
  exact ⟨rfl, rfl⟩
theorem bad_no {w : World} {p c k : Nat} {s : Fl} (h : Mem w p c k s) {n : Int} (hb : n < 0 ∨ s.B ≤ n) :
    Calls Try.prog 31 #[.pointer (some ⟨p, 0, none⟩), .int .i64 n] w fun e w' => e = .returned (.tuple #[.bool false, .int .i64 1]) ∧ w' = w := by
  have H := has_no h hb
  go_enter Try.func31, Try.ntmps31
  go_wp2_with (go_at_call 38; refine H.mono ?_; rintro e w' ⟨rfl, rfl⟩)
  go_ret2
  exact ⟨rfl, rfl⟩
theorem wear_any {w : World} {p c k : Nat} {s : Fl} (h : Mem w p c k s) {b : Nat} (hb : b < s.B) :
    Calls Try.prog 25 #[.pointer (some ⟨p, 0, none⟩), .int .i64 b] w fun e w' => e = .returned (.tuple #[.int .i64 (s.wear b), .int .i64 0]) ∧ w' = w := by
  obtain ⟨t0, t1, t2, t3, t4, t5⟩ := h.tops
  obtain ⟨b0, b1, b2, b3, g0, g1, g2, g3⟩ := h.at hb
  have H := has_yes h hb
  go_enter Try.func25, Try.ntmps25
  go_wp2_with (go_at_call 38; refine H.mono ?_; rintro e w' ⟨rfl, rfl⟩)
  go_ret2
  exact ⟨rfl, rfl⟩
theorem wear_no {w : World} {p c k : Nat} {s : Fl} (h : Mem w p c k s) {n : Int} (hb : n < 0 ∨ s.B ≤ n) :
    Calls Try.prog 25 #[.pointer (some ⟨p, 0, none⟩), .int .i64 n] w fun e w' => e = .returned (.tuple #[.int .i64 0, .int .i64 1]) ∧ w' = w := by
  have H := has_no h hb
  go_enter Try.func25, Try.ntmps25
  go_wp2_with (go_at_call 38; refine H.mono ?_; rintro e w' ⟨rfl, rfl⟩)
  go_ret2
  exact ⟨rfl, rfl⟩
theorem power_any {w : World} {p c k : Nat} {s : Fl} (h : Mem w p c k s) :
    Calls Try.prog 29 #[.pointer (some ⟨p, 0, none⟩)] w fun e w' => e = .returned (.bool s.on) ∧ w' = w := by
  obtain ⟨t0, t1, t2, t3, t4, t5⟩ := h.tops
  go_enter Try.func29, Try.ntmps29
  go_wp2
  go_ret
  exact ⟨ret_bool (by simp), rfl⟩
theorem stat_any {w : World} {p c k : Nat} {s : Fl} (h : Mem w p c k s) :
    Calls Try.prog 26 #[.pointer (some ⟨p, 0, none⟩)] w fun e w' => e = .returned (.agg #[.int .i64 s.reads, .int .i64 s.progs, .int .i64 s.erases]) ∧ Mem w' p c k s ∧ Keep (fun _ => False) w w' := by
  obtain ⟨t6, t7, t8⟩ := h.stats
  have hpl := h.top.lt (by omega)
  go_enter Try.func26, Try.ntmps26
  go_wp2
  exact bodyPost_ret (v := .agg #[.int .i64 s.reads, .int .i64 s.progs, .int .i64 s.erases]) (by simp [results, Try.results26, go_sem]) rfl ⟨rfl, h.alloc _, (Keep.refl _ _).alloc _⟩
theorem refuses_any {w : World} {p c k : Nat} {s : Fl} (h : Mem w p c k s) {b : Nat} (hb : b < s.B) :
    Calls Try.prog 35 #[.pointer (some ⟨p, 0, none⟩), .pointer (some ⟨k, b * 4, none⟩)] w fun e w' => e = .returned (.int .i64 (if s.on = false then 7 else if s.bad b then 6 else 0)) ∧ w' = w := by
  obtain ⟨t0, t1, t2, t3, t4, t5⟩ := h.tops
  obtain ⟨b0, b1, b2, b3, g0, g1, g2, g3⟩ := h.at hb
  cases e1 : s.on
  · rw [e1] at t3
    go_enter Try.func35, Try.ntmps35
    go_wp2
    go_ret
    exact ⟨rfl, rfl⟩
  · rw [e1] at t3
    cases e2 : s.bad b
    · rw [e2] at b0
      go_enter Try.func35, Try.ntmps35
      go_wp2
      go_ret
      exact ⟨rfl, rfl⟩
    · rw [e2] at b0
      go_enter Try.func35, Try.ntmps35
      go_wp2
      go_ret
      exact ⟨rfl, rfl⟩
theorem Mem.drewN {w : World} {p c k : Nat} {s : Fl} (h : Mem w p c k s) (n : Nat) : Mem (w.drewN n) p c k s := by
  have e := World.drewN_alike w n
  exact ⟨h.top.of_block (by rw [e.1]), h.cel.of_block (by rw [e.1]), h.blk.of_block (by rw [e.1]), h.pc, h.pk, h.ck⟩
theorem Keep.drewN {S : Nat → Prop} {a w : World} (h : Keep S a w) (n : Nat) : Keep S a (w.drewN n) := by
  induction n with
  | zero => exact h
  | succ n ih => exact ih.drew

theorem bytes_any {w : World} {p c k : Nat} {s : Fl} (h : Mem w p c k s) (b2 : s.B ≤ 64) (p2 : s.P ≤ 32) :
    Calls Try.prog 46 #[.pointer (some ⟨p, 0, none⟩)] w fun e w' => e = .returned (.int .i64 s.size) ∧ Mem w' p c k s ∧ Keep (fun _ => False) w w' := by
  obtain ⟨t0, t1, t2, t3, t4, t5⟩ := h.tops
  have hm : s.B * s.P ≤ 64 * 32 := Nat.mul_le_mul b2 p2
  have H : ∀ n, Mem (w.drewN n) p c k s := h.drewN
  have HS : Hid (s.size = s.B * s.P * 68 + 2 * s.B) := rfl
  have hn : s.B * s.P * 68 ≤ 139264 := by omega
  clear h hm
  generalize s.B * s.P * 68 = n at t1 HS hn
  go_enter Try.func46, Try.ntmps46
  go_wp2
  go_quiet (fail)
  go_wp2
  go_ret
  exact ⟨by rw [HS.out]; exact ret_i64 (by omega), H _, (Keep.refl _ _).drewN _⟩

theorem page_yes {w : World} {p c k : Nat} {s : Fl} (h : Mem w p c k s) (b2 : s.B ≤ 64) (p2 : s.P ≤ 32) {pg : Nat} (hb : pg < s.B * s.P) :
    Calls Try.prog 34 #[.pointer (some ⟨p, 0, none⟩), .int .i64 pg] w fun e w' => e = .returned (.bool true) ∧ Mem w' p c k s ∧ Keep (fun _ => False) w w' := by
  obtain ⟨t0, t1, t2, t3, t4, t5⟩ := h.tops
  have hm : s.B * s.P ≤ 64 * 32 := Nat.mul_le_mul b2 p2
  have H : ∀ n, Mem (w.drewN n) p c k s := h.drewN
  clear h
  have hd : decide ((0 : Int) ≤ pg) = true := by simp
  have hmul : (s.B : Int) * (s.P : Int) = ((s.B * s.P : Nat) : Int) := by simp
  generalize s.B * s.P = m at *
  have hlt : decide ((pg : Int) < (m : Int)) = true := by simp only [decide_eq_true_eq]; omega
  go_enter Try.func34, Try.ntmps34
  go_wp2
  go_quiet (fail)
  go_wp2
  go_ret
  exact ⟨rfl, H _, (Keep.refl _ _).drewN _⟩

theorem page_no {w : World} {p c k : Nat} {s : Fl} (h : Mem w p c k s) (b2 : s.B ≤ 64) (p2 : s.P ≤ 32) {n : Int} (hb : n < 0 ∨ (s.B * s.P : Nat) ≤ n) :
    Calls Try.prog 34 #[.pointer (some ⟨p, 0, none⟩), .int .i64 n] w fun e w' => e = .returned (.bool false) ∧ Mem w' p c k s ∧ Keep (fun _ => False) w w' := by
  obtain ⟨t0, t1, t2, t3, t4, t5⟩ := h.tops
  have hm : s.B * s.P ≤ 64 * 32 := Nat.mul_le_mul b2 p2
  have H : ∀ n, Mem (w.drewN n) p c k s := h.drewN
  clear h
  by_cases h0 : 0 ≤ n
  · have hd : decide ((0 : Int) ≤ n) = true := by simp [h0]
    have hmul : (s.B : Int) * (s.P : Int) = ((s.B * s.P : Nat) : Int) := by simp
    generalize s.B * s.P = m at *
    have hlt : decide (n < (m : Int)) = false := by simp only [decide_eq_false_iff_not]; omega
    go_enter Try.func34, Try.ntmps34
    go_wp2
    go_quiet (fail)
    go_wp2
    go_ret
    exact ⟨rfl, H _, (Keep.refl _ _).drewN _⟩
  · have hd : decide ((0 : Int) ≤ n) = false := by simp [h0]
    go_enter Try.func34, Try.ntmps34
    go_wp2
    go_quiet (fail)
    go_wp2
    go_ret
    exact ⟨rfl, H _, (Keep.refl _ _).drewN _⟩

/-- A row of bytes is made of one byte. -/
theorem fill_any {w : World} {c N : Nat} {f : Nat → Value} (h : Blk w c N f) (o n cap : Nat) (hn : o + n ≤ N) (hN : N ≤ 139264) (x : Int) :
    Calls Try.prog 33 #[.slice (some ⟨c, o, none⟩) n cap, .int .u8 x] w fun e w' => e = .returned (.tuple #[]) ∧ Blk w' c N (fun i => if o ≤ i ∧ i < o + n then .int .u8 x else f i) ∧ Keep (fun b => b = c) w w' := by
  go_enter Try.func33, Try.ntmps33
  go_wp2
  go_loopw [7] (fun i wr => ∃ q : Nat, q ≤ n ∧ i = .int .i64 q ∧ Blk wr c N (fun i => if o ≤ i ∧ i < o + q then .int .u8 x else f i) ∧ Keep (fun b => b = c) w wr) (fun i _ => n - (intOf i).toNat)
  case atStart => exact ⟨0, by omega, rfl, h.congr (fun i _ => by rw [if_neg (by omega)]), Keep.refl _ _⟩
  case round =>
    obtain ⟨q, hq, rfl, hb, hk⟩ := hrel
    by_cases hlt : q < n
    · obtain ⟨hc, hf⟩ := hb (o + q) (by omega)
      simp only [if_neg (show ¬ (o ≤ o + q ∧ o + q < o + q) by omega)] at hc
      have HB := hb.set (o + q) (.int .u8 x)
      have HK : Keep (fun b => b = c) w (wr.setCell ⟨c, o + q, none⟩ (.int .u8 x)) := hk.setCell (Or.inl rfl) _
      clear hb hk h
      go_wp2
      go_roundw
      case rel => exact ⟨q + 1, by omega, by go_num, HB.congr (fun i _ => by (repeat' split) <;> first | rfl | omega), HK⟩
      case measure => simp [intOf]; omega
    · obtain rfl : q = n := by omega
      go_wp2
      refine bodyPost_end (results_none rfl _ _ _) rfl ?_
      exact ⟨rfl, hb, hk⟩

theorem blockCells_any {w : World} {p c k : Nat} {s : Fl} (h : Mem w p c k s) (b2 : s.B ≤ 64) (p1 : 1 ≤ s.P) (p2 : s.P ≤ 32) {b : Nat} (hb : b < s.B) :
    Calls Try.prog 49 #[.pointer (some ⟨p, 0, none⟩), .int .i64 b] w fun e w' => (∃ cap, e = .returned (.slice (some ⟨c, b * (s.P * 68), none⟩) (s.P * 68) cap) ∧ s.P * 68 ≤ cap) ∧ w' = w := by
  obtain ⟨t0, t1, t2, t3, t4, t5⟩ := h.tops
  have hm : b * (s.P * 68) ≤ 63 * (32 * 68) := Nat.mul_le_mul (by omega) (by omega)
  have hs : (b + 1) * (s.P * 68) = b * (s.P * 68) + s.P * 68 := by rw [Nat.add_mul, Nat.one_mul]
  have hle : (b + 1) * (s.P * 68) ≤ s.B * s.P * 68 := by rw [Nat.mul_assoc]; exact Nat.mul_le_mul (by omega) (by omega)
  have i1 : (b : Int) * ((s.P : Int) * 68) = ((b * (s.P * 68) : Nat) : Int) := by simp
  have i2 : ((b : Int) + 1) * ((s.P : Int) * 68) = ((b * (s.P * 68) + s.P * 68 : Nat) : Int) := by rw [← hs]; simp
  rw [hs] at hle
  clear hs h
  generalize b * (s.P * 68) = m at *
  generalize s.B * s.P * 68 = n at *
  have hne : ¬ n = m := by omega
  go_enter Try.func49, Try.ntmps49
  go_wp2
  go_ret
  exact ⟨⟨n - m, ret_len (by omega), by omega⟩, rfl⟩
end Nd
end Go.Proofs.Ytjafjofonckaaaa
