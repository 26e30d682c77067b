/-
  Read and Image of both flashes at any number: the same bytes; two rows of bytes held against each other.
-/
import Derived.Test.YtjafjofonckaaaaSteps
namespace Go.Proofs.Ytjafjofonckaaaa
open Go.ChangeShapes Go.WideShapes Go.ChangeAt Go.RowKit
namespace Nd

/-- A row of bytes of one's own that may grow. -/
structure Gr (w0 w : World) (g cap : Nat) (l : List Int) : Prop where
  row : Row w (some ⟨g, 0, none⟩) l.length cap l
  free : Free w g cap
  new : w0.heap.size ≤ g
  keep : Keep (fun _ => False) w0 w
theorem Gr.app {w0 w : World} {g cap : Nat} {l : List Int} (h : Gr w0 w g cap l) {n : Nat} (hn : l.length = n) {a2 : Option Addr} {m c : Nat} {l2 : List Int} (hr2 : Row w a2 m c l2) (hlen : n + m ≤ 140737488355323) :
    ∃ g' cap' w2, (Builtin.append_ #[28, 28] 28 #[.slice (some ⟨g, 0, none⟩) n cap, .slice a2 m c]).run Try.prog w = .ok (.slice (some ⟨g', 0, none⟩) (n + m) cap') w2 ∧ Gr w0 w2 g' cap' (l ++ l2) := by
  subst hn
  obtain ⟨g', cap', w2, hrun, hrow, hk, hg, hf⟩ := append_rows w g cap l.length l h.row h.free a2 m c l2 hr2 (by omega)
  have hm : (l ++ l2).length = l.length + m := by rw [List.length_append, hr2.1]
  have hn := h.new
  refine ⟨g', cap', w2, hrun, by rw [hm]; exact hrow, hf, ?_, h.keep.next hk (fun x hx e => by omega)⟩
  rcases hg with rfl | hg
  · exact hn
  · have := h.keep.size; omega
theorem Gr.more {w0 w w' : World} {g cap : Nat} {l : List Int} (h : Gr w0 w g cap l) (k : Keep (fun _ => False) w w') : Gr w0 w' g cap l := ⟨h.row.keep k (fun _ _ _ e => e), h.free.keep k (fun e => e), h.new, h.keep.trans k⟩
theorem Gr.at {w0 w : World} {g cap : Nat} {l : List Int} (h : Gr w0 w g cap l) {n : Nat} (hn : l.length = n) : Row w (some ⟨g, 0, none⟩) n cap l := hn ▸ h.row
theorem Gr.one {w0 w : World} {g cap : Nat} {l : List Int} (h : Gr w0 w g cap l) {n : Nat} (hn : l.length = n) {x : Int} (hx : 0 ≤ x ∧ x ≤ 255) (hlen : n + 1 ≤ 140737488355323) :
    ∃ g' cap' w2, (Builtin.append_ #[28, 28] 28 #[.slice (some ⟨g, 0, none⟩) n cap, .slice (some ⟨w.heap.size, 0, none⟩) 1 1]).run Try.prog (w.alloc (.cells #[.int .u8 x] 5)) = .ok (.slice (some ⟨g', 0, none⟩) (n + 1) cap') w2 ∧ Gr w0 w2 g' cap' (l ++ [x]) :=
  (h.more ((Keep.refl _ _).alloc _)).app hn (row_new w [x] (0, 0) w.heap.size 1 rfl (by simp) (by omega) (by simpa using hx)) hlen
theorem Gr.text (w : World) (l : List Int) (hb : ∀ n ∈ l, 0 ≤ n ∧ n ≤ 255) (hl : l.length ≤ 9223372036854775807) :
    ∃ cap w1, (convert 9 28 (.string (strOfNums l))).run Try.prog w = .ok (.slice (some ⟨w.heap.size, 0, none⟩) l.length cap) w1 ∧ Gr w w1 w.heap.size cap l := by
  obtain ⟨cap, w1, h1, h2, h3, h4, h5⟩ := text_row w l hb hl
  exact ⟨cap, w1, h1, h2, h5, Nat.le_refl _, Keep.of_below h3⟩
theorem Gr.start (w : World) : Gr w (w.alloc (.cells #[] 5)) w.heap.size 0 [] := ⟨⟨rfl, by simp, by omega, by simp, Or.inl rfl⟩, fun i hi => by omega, Nat.le_refl _, (Keep.refl _ _).alloc _⟩
theorem str_append (l m : List Int) : strOfNums l ++ strOfNums m = strOfNums (l ++ m) := by
  apply ByteArray.ext
  simp [strOfNums, ByteArray.data_append]
theorem row_nil (w : World) : Row w none 0 0 [] := ⟨rfl, Nat.le_refl _, by omega, by simp, Or.inl rfl⟩

theorem same_any {w : World} {a b : Option Addr} {n m c d : Nat} {l : List Int} (h1 : Row w a n c l) (h2 : Row w b m d l) : Calls Try.prog 21 #[.slice a n c, .slice b m d] w fun e w' => e = .returned (.bool true) ∧ w' = w := by
  have t1 := h1.text
  have t2 := h2.text
  go_enter Try.func21, Try.ntmps21
  go_wp2
  go_ret
  exact ⟨rfl, rfl⟩

/-- What Read answers, and what it leaves. -/
def Fl.there (s : Fl) (n : Int) : Prop := 0 ≤ n ∧ n < (s.B * s.P : Nat)
instance (s : Fl) (n : Int) : Decidable (s.there n) := by unfold Fl.there; infer_instance
def Fl.rcode (s : Fl) (n : Int) : Int := if ¬ s.there n then 1 else if s.on = false then 7 else 0
def Fl.rbytes (s : Fl) (n : Int) : List Int := if ¬ s.there n then [] else if s.on = false then [] else tab 68 fun i => s.cell (n.toNat * 68 + i)
def Fl.call2 (s : Fl) (n : Int) : Fl := if ¬ s.there n then s else if s.on = false then s else s.readOne
/-- A row of bytes that was made since w0. -/
def Fresh (w0 w : World) (a : Option Addr) (len cap : Nat) (l : List Int) : Prop := Row w a len cap l ∧ (len = 0 ∨ ∃ g, a = some ⟨g, 0, none⟩ ∧ w0.heap.size ≤ g ∧ Free w g cap)

theorem Fl.Ok.call2 {s : Fl} {N : Nat} (h : s.Ok N) (n : Int) : (s.call2 n).Ok (N + 1) := by
  unfold Fl.call2
  split
  · exact h.mono (by omega)
  · split
    · exact h.mono (by omega)
    · exact h.readOne
theorem Fl.call2_P (s : Fl) (n : Int) : (s.call2 n).P = s.P ∧ (s.call2 n).B = s.B := by
  unfold Fl.call2
  split
  · exact ⟨rfl, rfl⟩
  · split <;> exact ⟨rfl, rfl⟩

theorem call2_any {w : World} {p c k N : Nat} {s : Fl} (h : Mem w p c k s) (ok : s.Ok N) (hN : N ≤ 1000000) (n : Int) :
    Calls Try.prog 15 #[.pointer (some ⟨p, 0, none⟩), .int .i64 n] w fun e w' => ∃ a len cap, e = .returned (.tuple #[.slice a len cap, .int .i64 (s.rcode n)]) ∧ Fresh w w' a len cap (s.rbytes n) ∧ Mem w' p c k (s.call2 n) ∧ Keep (Own p c k) w w' := by
  unfold Fl.rcode Fl.rbytes Fl.call2
  by_cases ht : s.there n
  · obtain ⟨h0, h1⟩ := ht
    have hnt : ¬ ¬ s.there n := fun e => e ⟨h0, h1⟩
    simp only [if_neg hnt]
    clear hnt
    obtain ⟨pg, rfl⟩ := Int.eq_ofNat_of_zero_le h0
    by_cases hon : s.on = false
    · simp only [if_pos hon]
      refine (read_off h ok (by omega) hon).mono ?_
      rintro e w' ⟨rfl, hm, hk⟩
      exact ⟨none, 0, 0, rfl, ⟨row_nil w', Or.inl rfl⟩, hm, hk.none⟩
    · simp only [if_neg hon]
      refine (read_any h ok hN (pg := pg) (by omega) (by simpa using hon)).mono ?_
      rintro e w' ⟨g, cap, rfl, hg, hrow, hf, hm, hk⟩
      exact ⟨_, _, _, rfl, ⟨hrow, Or.inr ⟨g, rfl, hg, hf⟩⟩, hm, hk⟩
  · simp only [if_pos ht]
    refine (read_no h ok (by unfold Fl.there at ht; omega)).mono ?_
    rintro e w' ⟨rfl, hm, hk⟩
    exact ⟨none, 0, 0, rfl, ⟨row_nil w', Or.inl rfl⟩, hm, hk.none⟩

theorem rread_no {w : World} {l : Pl} {N : Nat} {s : Fl} {x n : Int} (h : RM w l s x) (ok : s.Ok N) (hb : n < 0 ∨ (s.B * s.P : Nat) ≤ n) :
    Calls Try.prog 20 #[.pointer (some ⟨l.p, 0, none⟩), .int .i64 n] w fun e w' => e = .returned (.tuple #[.slice none 0 0, .int .i64 1]) ∧ Keep (fun _ => False) w w' := by
  obtain ⟨t0, t1, t2, t3, t4, t5, t6, t7, t8⟩ := h.tops
  have hm : s.B * s.P ≤ 64 * 32 := Nat.mul_le_mul ok.b2 ok.p2
  have hmul : (s.B : Int) * (s.P : Int) = ((s.B * s.P : Nat) : Int) := by simp
  clear t2 h
  generalize s.B * s.P = m at *
  by_cases h0 : n < 0
  · have hd : decide (n < 0) = true := by simp [h0]
    go_enter Try.func20, Try.ntmps20
    go_wp2
    go_quiet (fail)
    go_wp2
    go_ret2
    exact ⟨rfl, (Keep.refl _ _).drewN _⟩
  · have hd : decide (n < 0) = false := by simp [h0]
    have h1 : (m : Int) ≤ n := by omega
    have hd1 : decide ((m : Int) ≤ n) = true := by simp [h1]
    go_enter Try.func20, Try.ntmps20
    go_wp2
    go_quiet (fail)
    go_wp2
    go_ret2
    exact ⟨rfl, (Keep.refl _ _).drewN _⟩

theorem rread_off {w : World} {l : Pl} {N pg : Nat} {s : Fl} {x : Int} (h : RM w l s x) (ok : s.Ok N) (hb : pg < s.B * s.P) (e1 : s.on = false) :
    Calls Try.prog 20 #[.pointer (some ⟨l.p, 0, none⟩), .int .i64 pg] w fun e w' => e = .returned (.tuple #[.slice none 0 0, .int .i64 7]) ∧ Keep (fun _ => False) w w' := by
  obtain ⟨t0, t1, t2, t3, t4, t5, t6, t7, t8⟩ := h.tops
  have hm : s.B * s.P ≤ 64 * 32 := Nat.mul_le_mul ok.b2 ok.p2
  have hmul : (s.B : Int) * (s.P : Int) = ((s.B * s.P : Nat) : Int) := by simp
  clear t2 h
  generalize s.B * s.P = m at *
  have hd : decide ((pg : Int) < 0) = false := by simp
  have hd1 : decide ((m : Int) ≤ pg) = false := by simp; omega
  go_enter Try.func20, Try.ntmps20
  go_wp2
  go_quiet (fail)
  go_wp2
  go_ret2
  exact ⟨rfl, (Keep.refl _ _).drewN _⟩

set_option maxHeartbeats 1000000 in
theorem rread_go {w : World} {l : Pl} {N pg : Nat} {s : Fl} {x : Int} (h : RM w l s x) (ok : s.Ok N) (hN : N ≤ 1000000) (hb : pg < s.B * s.P) (e1 : s.on = true) :
    Calls Try.prog 20 #[.pointer (some ⟨l.p, 0, none⟩), .int .i64 pg] w fun e w' => ∃ g cap, e = .returned (.tuple #[.slice (some ⟨g, 0, none⟩) 68 cap, .int .i64 0]) ∧ w.heap.size ≤ g ∧
      Row w' (some ⟨g, 0, none⟩) 68 cap (tab 68 fun i => s.cell (pg * 68 + i)) ∧ Free w' g cap ∧ RM w' l s.readOne x ∧ Keep l.own w w' := by
  obtain ⟨t0, t1, t2, t3, t4, t5, t6, t7, t8⟩ := h.tops
  obtain ⟨t9, t10, t11⟩ := h.stats
  have f9 := h.free 9 (by omega)
  have hrd := ok.reads
  have hcell := ok.cell
  have hm : s.B * s.P ≤ 64 * 32 := Nat.mul_le_mul ok.b2 ok.p2
  have hmul : (s.B : Int) * (s.P : Int) = ((s.B * s.P : Nat) : Int) := by simp
  have hm2 : (s.B * s.P) * 68 = s.B * s.P * 68 := rfl
  have hcel := fun n => (h.drewN n).setReads (s.reads + 1)
  obtain ⟨m, hmm⟩ : ∃ m, s.B * s.P = m := ⟨_, rfl⟩
  rw [hmm] at hm hmul hb t2
  have hd : decide ((pg : Int) < 0) = false := by simp
  have hd1 : decide ((m : Int) ≤ pg) = false := by simp; omega
  have hw1 : IntKind.i64.wrap ((s.reads : Int) + 1) = (s.reads : Int) + 1 := by rw [IntKind.wrap_i64]; omega
  have HM : Hid (s.B * s.P = m) := hmm
  clear hmm hm2
  go_enter Try.func20, Try.ntmps20
  go_wp2
  go_quiet (fail)
  have hR : RM ((w.drewN nq).setCell ⟨l.p, 9, none⟩ (.int .i64 ((s.reads : Int) + 1))) l s.readOne x := hcel nq
  have hK0 : Keep l.own w ((w.drewN nq).setCell ⟨l.p, 9, none⟩ (.int .i64 ((s.reads : Int) + 1))) := rkp ((Keep.refl _ _).drewN nq) _ _
  have hrow : Row ((w.drewN nq).setCell ⟨l.p, 9, none⟩ (.int .i64 ((s.reads : Int) + 1))) (some ⟨l.y, pg * 68, none⟩) 68 (m * 68 - pg * 68) (tab 68 fun i => s.cell (pg * 68 + i)) :=
    Blk.row (N := s.B * s.P * 68) hR.cel hcell (pg * 68) 68 (m * 68 - pg * 68) (by rw [HM.out]; omega) (by omega) (by omega)
  obtain ⟨g, cap, w2, hrun, hG⟩ := (Gr.start ((w.drewN nq).setCell ⟨l.p, 9, none⟩ (.int .i64 ((s.reads : Int) + 1)))).app rfl (hrow.keep (((Keep.refl (fun _ => False) _).alloc _)) (fun _ _ _ e => e)) (by simp)
  rw [List.nil_append] at hG
  simp only [List.length_nil, Nat.zero_add] at hrun
  have q1 : ¬ m * 68 = pg * 68 := by omega
  have q2 : (pg : Int) * 68 ≤ ((pg : Int) + 1) * 68 := by omega
  have q3 : ((pg : Int) + 1) * 68 ≤ m * 68 := by omega
  have c2 : (((w.drewN nq).setCell ⟨l.p, 9, none⟩ (.int .i64 ((s.reads : Int) + 1))).alloc (.cells #[] 5)).cell? ⟨l.p, 2, none⟩ = some (.slice (some ⟨l.y, 0, none⟩) (m * 68) (m * 68)) := by
    have := ((hR.top.alloc (.cells #[] 5)) 2 (by omega)).1
    rw [this]
    show some (Value.slice (some ⟨l.y, 0, none⟩) (s.B * s.P * 68) (s.B * s.P * 68)) = _
    rw [HM.out]
  have hsz : ((w.drewN nq).setCell ⟨l.p, 9, none⟩ (.int .i64 ((s.reads : Int) + 1))).heap.size = w.heap.size := by simp [World.setCell]
  rw [hsz] at hrun
  have hrun' : (Builtin.append_ #[28, 28] 28 #[.slice (some ⟨w.heap.size, 0, none⟩) 0 0, .slice (some ⟨l.y, pg * 68, none⟩) ((pg + 1) * 68 - pg * 68) (m * 68 - pg * 68)]).run Try.prog (((w.drewN nq).setCell ⟨l.p, 9, none⟩ (.int .i64 ((s.reads : Int) + 1))).alloc (.cells #[] 5)) = .ok (.slice (some ⟨g, 0, none⟩) 68 cap) w2 := by
    rw [show (pg + 1) * 68 - pg * 68 = 68 by omega]; exact hrun
  clear hrow hcel hmul hsz t2 hrun
  go_wp2_with (at_builtin; refine wpList_append_run rfl (.tmp 33) (.tmp 43) 28 rfl (by rfl) (by rfl) hrun' ?_)
  go_ret2
  refine ⟨g, cap, rfl, ?_, hG.at (tab_len _ _), hG.free, hR.keep hG.keep (fun _ _ e => e), hK0.next hG.keep (fun _ _ e => e.elim)⟩
  have h1 := hK0.size
  have h2 := hG.new
  omega

theorem rcall2_any {w : World} {l : Pl} {N : Nat} {s : Fl} {x : Int} (h : RM w l s x) (ok : s.Ok N) (hN : N ≤ 1000000) (n : Int) :
    Calls Try.prog 20 #[.pointer (some ⟨l.p, 0, none⟩), .int .i64 n] w fun e w' => ∃ a len cap, e = .returned (.tuple #[.slice a len cap, .int .i64 (s.rcode n)]) ∧ Fresh w w' a len cap (s.rbytes n) ∧ RM w' l (s.call2 n) x ∧ Keep l.own w w' := by
  unfold Fl.rcode Fl.rbytes Fl.call2
  by_cases ht : s.there n
  · obtain ⟨h0, h1⟩ := ht
    have hnt : ¬ ¬ s.there n := fun e => e ⟨h0, h1⟩
    simp only [if_neg hnt]
    clear hnt
    obtain ⟨pg, rfl⟩ := Int.eq_ofNat_of_zero_le h0
    by_cases hon : s.on = false
    · simp only [if_pos hon]
      refine (rread_off h ok (by omega) hon).mono ?_
      rintro e w' ⟨rfl, hk⟩
      exact ⟨none, 0, 0, rfl, ⟨row_nil w', Or.inl rfl⟩, h.keep hk (fun _ _ e => e), hk.none⟩
    · simp only [if_neg hon]
      refine (rread_go h ok hN (pg := pg) (by omega) (by simpa using hon)).mono ?_
      rintro e w' ⟨g, cap, rfl, hg, hrow, hf, hm, hk⟩
      exact ⟨_, _, _, rfl, ⟨hrow, Or.inr ⟨g, rfl, hg, hf⟩⟩, hm, hk⟩
  · simp only [if_pos ht]
    refine (rread_no h ok (by unfold Fl.there at ht; omega)).mono ?_
    rintro e w' ⟨rfl, hk⟩
    exact ⟨none, 0, 0, rfl, ⟨row_nil w', Or.inl rfl⟩, h.keep hk (fun _ _ e => e), hk.none⟩

theorem Fl.mark_bd (s : Fl) (b : Nat) : 0 ≤ s.mark b ∧ s.mark b ≤ 3 := by unfold Fl.mark; cases s.bad b <;> cases s.torn b <;> decide

set_option maxHeartbeats 1000000 in
theorem rimage_any {w : World} {l : Pl} {N : Nat} {s : Fl} {x : Int} (h : RM w l s x) (ok : s.Ok N) :
    Calls Try.prog 45 #[.pointer (some ⟨l.p, 0, none⟩)] w fun e w' => ∃ g cap, e = .returned (.slice (some ⟨g, 0, none⟩) s.size cap) ∧ Gr w w' g cap (tab s.size s.image) := by
  obtain ⟨t0, t1, t2, t3, t4, t5, t6, t7, t8⟩ := h.tops
  have hm : s.B * s.P ≤ 64 * 32 := Nat.mul_le_mul ok.b2 ok.p2
  have hcell := ok.cell
  have c2 : (w.alloc (.cells #[] 5)).cell? ⟨l.p, 2, none⟩ = some (.slice (some ⟨l.y, 0, none⟩) (s.B * s.P * 68) (s.B * s.P * 68)) := ((h.top.alloc (.cells #[] 5)) 2 (by omega)).1
  have hrow : Row w (some ⟨l.y, 0, none⟩) (s.B * s.P * 68) (s.B * s.P * 68) (tab (s.B * s.P * 68) s.cell) := by
    have := Blk.row h.cel hcell 0 (s.B * s.P * 68) (s.B * s.P * 68) (by omega) (by omega) (by omega)
    simpa using this
  obtain ⟨g, cap, w2, hrun, hG⟩ := (Gr.start w).app rfl (hrow.keep ((Keep.refl (fun _ => False) w).alloc (.cells #[] 5)) (fun _ _ _ e => e)) (by simp; omega)
  rw [List.nil_append, show tab (s.B * s.P * 68) s.cell = tab (s.B * s.P * 68 + 2 * 0) s.image from tab_congr (fun i hi => by unfold Fl.image; rw [if_pos hi])] at hG
  simp only [List.length_nil, Nat.zero_add] at hrun
  have hB := ok.b2
  have hnext := ok.next
  have hp2 := ok.p2
  obtain ⟨M, hM⟩ : ∃ M, s.B * s.P * 68 = M := ⟨_, rfl⟩
  have hsz : s.size = M + 2 * s.B := by unfold Fl.size; rw [hM]
  have hMb : M ≤ 139264 := by omega
  have himg := fun q => Fl.image_two s q
  rw [hsz]
  simp only [hM] at hrun hG c2 himg
  have HT : Hid (RM w l s x) := h
  clear hrow t2 hM hsz
  go_enter Try.func45, Try.ntmps45
  go_wp2_with (at_builtin; refine wpList_append_run rfl (.tmp 6) (.tmp 10) 28 rfl (by rfl) (by rfl) hrun ?_)
  clear hrun c2 t0 t1 t3 t4 t5 t6 t7 t8
  go_loopw [3, 4] (fun b i wr => ∃ q g' cap' : Nat, q ≤ s.B ∧ i = .int .i64 q ∧ b = .slice (some ⟨g', 0, none⟩) (M + 2 * q) cap' ∧ Gr w wr g' cap' (tab (M + 2 * q) s.image)) (fun _ i _ => s.B - (intOf i).toNat)
  case atStart => exact ⟨0, g, cap, by omega, rfl, rfl, hG⟩
  case round =>
    obtain ⟨q, g', cap', hq, rfl, rfl, hGr⟩ := hrel
    have hRM := HT.out.keep hGr.keep (fun _ _ e => e)
    obtain ⟨t0, t1, t2, t3, t4, t5, t6, t7, t8⟩ := hRM.tops
    clear t1 t2 t6 t7 t8
    by_cases hlt : q < s.B
    · have hbad := (hRM.bad q hlt).1
      have htorn := (hRM.torn q hlt).1
      have hnx := (hRM.next q hlt).1
      have hnb := hnext q
      have hmk := s.mark_bd q
      have hK2 : Keep (fun _ => False) wr (wr.alloc (.cells #[.int .u8 (s.mark q), .int .u8 (s.next q : Int)] 5)) := (Keep.refl _ _).alloc _
      obtain ⟨g2, cap2, w3, hrun2, hG2⟩ := (hGr.more hK2).app (tab_len _ _) (row_new wr [s.mark q, (s.next q : Int)] (0, 0) wr.heap.size 2 rfl (by simp) (by omega) (by intro n hn; simp at hn; omega)) (by simp; omega)
      rw [himg q, show M + 2 * q + 2 = M + 2 * (q + 1) by omega] at hG2
      simp only [List.length_cons, List.length_nil, Nat.zero_add, Nat.reduceAdd] at hrun2
      have hlt' : (q : Int) < s.B := by omega
      have hnw : (s.next q : Int) % 256 = s.next q := by omega
      have HMK : Hid (s.mark q = (if s.bad q then 1 else 0) + (if s.torn q then 2 else 0)) := rfl
      clear himg hnext hK2 hG hGr hRM hmk
      cases hb : s.bad q <;> cases ht : s.torn q <;> (
        have e := HMK.out
        simp only [hb, ht] at e hbad htorn
        simp at e
        rw [e] at hrun2
        clear e hb ht
        go_wp2_with (at_builtin; refine wpList_append_run rfl (.tmp 36) (.tmp 46) 28 rfl (by rfl) (by rfl) hrun2 ?_)
        exact ⟨⟨q + 1, g2, cap2, by omega, by go_num, by rw [show M + 2 * (q + 1) = M + 2 * q + 2 by omega], hG2⟩, by simp [intOf]; omega⟩)
    · obtain rfl : q = s.B := by omega
      go_wp2_with fail
      go_ret
      exact ⟨g', cap', rfl, hGr⟩
end Nd
end Go.Proofs.Ytjafjofonckaaaa
