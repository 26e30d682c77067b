/-
  The calls of package vint over any memory: Len, fold, unfold, Put, PutInt, Get and GetInt; the rows' numbers are bytes, the numbers are of 64 bits.
-/
import Derived.Test.YtknnaoloebknjaaBase
import Derived.Test.YtknnaoloebknjaaMath
namespace Go.Proofs.Ytknnaoloebknjaa
open Go.ChangeShapes Go.WideShapes Go.ChangeAt Go.RowKit
namespace Tg
open Vi

theorem len_any {v : Int} (hv : 0 ≤ v ∧ v ≤ 18446744073709551615) (w : World) : Calls Try.prog 15 #[.int .u64 v] w fun e w' => e = .returned (.int .i64 (vb v).length) ∧ w' = w := by
  go_enter Try.func15, Try.ntmps15
  go_wp2
  go_loop [0, 3] (fun u n => ∃ (x : Int) (k : Nat), 0 ≤ x ∧ x ≤ 18446744073709551615 ∧ u = .int .u64 x ∧ n = .int .i64 (k + 1) ∧ (vb v).length = k + (vb x).length) (fun u _ => (intOf u).toNat)
  case atStart => exact ⟨v, 0, hv.1, hv.2, rfl, rfl, by omega⟩
  case round =>
    obtain ⟨x, k, h0, h1, rfl, rfl, hl⟩ := hrel
    have hten := vb_ten hv.2
    by_cases hx : 128 ≤ x
    · rw [vb_big hx] at hl
      rw [List.length_cons] at hl
      have hk : (k : Int) ≤ 10 := by omega
      have HL : Hid ((vb v).length = k + ((vb (x / 128)).length + 1)) := hl
      clear hl hten
      go_wp2_with fail
      go_round
      case rel => exact ⟨x / 128, k + 1, by omega, by omega, rfl, by go_num, by have := HL.out; omega⟩
      case measure => simp [intOf]; omega
    · rw [vb_small hx] at hl
      have e : (k : Int) + 1 = (vb v).length := by simp at hl; omega
      have HL : Hid ((k : Int) + 1 = (vb v).length) := e
      clear hl hten e
      go_wp2_with fail
      go_ret
      exact ⟨by rw [← HL.out]; rfl, rfl⟩

theorem bnot {v : Int} (h : -9223372036854775808 ≤ v ∧ v ≤ 9223372036854775807) : bits .xor .i64 (-1) v = -v - 1 := by
  show IntKind.i64.wrap ((BitVec.ofInt 64 (-1) ^^^ BitVec.ofInt 64 v).toNat : Int) = _
  rw [show BitVec.ofInt 64 (-1) = BitVec.allOnes 64 by decide, BitVec.allOnes_xor, BitVec.toNat_not, BitVec.toNat_ofInt, IntKind.wrap_i64]
  omega

theorem fold_any {v : Int} (hv : -9223372036854775808 ≤ v ∧ v ≤ 9223372036854775807) (w : World) : Calls Try.prog 18 #[.int .i64 v] w fun e w' => e = .returned (.int .u64 (fold v)) ∧ w' = w := by
  unfold fold
  by_cases hneg : v < 0
  · rw [if_pos hneg]
    have hx := bnot hv
    have h1 : IntKind.u64.wrap (-v - 1) = -v - 1 := by rw [IntKind.wrap_u64]; omega
    have h2 : -2 * v - 1 = 2 * (-v - 1) + 1 := by omega
    rw [h2]
    clear h2
    have h0 : 0 ≤ -v - 1 ∧ -v - 1 ≤ 9223372036854775807 := by omega
    generalize -v - 1 = y at *
    have h3 : IntKind.u64.wrap (2 * y) = 2 * y := by rw [IntKind.wrap_u64]; omega
    have h4 : IntKind.u64.wrap (2 * y + 1) = 2 * y + 1 := by rw [IntKind.wrap_u64]; omega
    go_enter Try.func18, Try.ntmps18
    go_wp2
    go_ret
    exact ⟨rfl, rfl⟩
  · rw [if_neg hneg]
    have hpos : 0 ≤ v := by omega
    go_enter Try.func18, Try.ntmps18
    go_wp2
    go_ret
    exact ⟨rfl, rfl⟩

theorem unfold_any {u : Int} (hu : 0 ≤ u ∧ u ≤ 18446744073709551615) (w : World) : Calls Try.prog 19 #[.int .u64 u] w fun e w' => e = .returned (.int .i64 (Vi.unfold u)) ∧ w' = w := by
  unfold Vi.unfold
  by_cases hodd : u % 2 = 1
  · rw [if_pos hodd]
    have hx := bnot (v := u / 2) (by omega)
    go_enter Try.func19, Try.ntmps19
    go_wp2
    go_ret
    exact ⟨rfl, rfl⟩
  · rw [if_neg hodd]
    have hodd' : (u % 2 == 1) = false := by simpa using hodd
    go_enter Try.func19, Try.ntmps19
    go_wp2
    go_ret
    exact ⟨rfl, rfl⟩

theorem Keep.next {S T : Nat → Prop} {a b c : World} (h : Keep S a b) (k : Keep T b c) (e : ∀ x, x < a.heap.size → T x → S x) : Keep S a c :=
  ⟨k.os.trans h.os, k.tape.trans h.tape, k.output.trans h.output, Nat.le_trans h.size k.size, fun i hi hs => (k.block i (Nat.lt_of_lt_of_le hi h.size) (fun t => hs (e i hi t))).trans (h.block i hi hs)⟩
theorem Keep.undrew' {S : Nat → Prop} {a w : World} (h : Keep S a.drew w) : Keep S a w := ⟨h.os, h.tape, h.output, h.size, h.block⟩

/-- A row of bytes of one's own that may grow. -/
structure Gr (w0 w : World) (g cap : Nat) (l : List Int) : Prop where
  row : Row w (some ⟨g, 0, none⟩) l.length cap l
  free : Free w g cap
  new : w0.heap.size ≤ g
  keep : Keep (fun _ => False) w0 w

theorem Gr.app {w0 w : World} {g cap : Nat} {l : List Int} (h : Gr w0 w g cap l) {n : Nat} (hn : l.length = n) {a2 : Option Addr} {m c : Nat} {l2 : List Int} (hr2 : Row w a2 m c l2) (hlen : n + m ≤ 140737488355323) :
    ∃ g' cap' w2, (Builtin.append_ #[27, 27] 27 #[.slice (some ⟨g, 0, none⟩) n cap, .slice a2 m c]).run Try.prog w = .ok (.slice (some ⟨g', 0, none⟩) (n + m) cap') w2 ∧ Gr w0 w2 g' cap' (l ++ l2) := by
  subst hn
  obtain ⟨g', cap', w2, hrun, hrow, hk, hg, hf⟩ := append_rows w g cap l.length l h.row h.free a2 m c l2 hr2 hlen
  have hm : (l ++ l2).length = l.length + m := by rw [List.length_append, hr2.1]
  have hn := h.new
  refine ⟨g', cap', w2, hrun, by rw [hm]; exact hrow, hf, ?_, h.keep.next hk (fun x hx e => by omega)⟩
  rcases hg with rfl | hg
  · exact hn
  · have := h.keep.size; omega
theorem Gr.drew {w0 w : World} {g cap : Nat} {l : List Int} (h : Gr w0 w g cap l) : Gr w0 w.drew g cap l := ⟨h.row.keep ((Keep.refl (fun _ => False) w).drew) (fun _ _ _ e => e), h.free.keep ((Keep.refl (fun _ => False) w).drew) (fun e => e), h.new, h.keep.drew⟩
theorem Gr.more {w0 w w' : World} {g cap : Nat} {l : List Int} (h : Gr w0 w g cap l) (k : Keep (fun _ => False) w w') : Gr w0 w' g cap l := ⟨h.row.keep k (fun _ _ _ e => e), h.free.keep k (fun e => e), h.new, h.keep.trans k⟩
theorem Gr.one {w0 w : World} {g cap : Nat} {l : List Int} (h : Gr w0 w g cap l) {n : Nat} (hn : l.length = n) {x : Int} (hx : 0 ≤ x ∧ x ≤ 255) (hlen : n + 1 ≤ 140737488355323) :
    ∃ g' cap' w2, (Builtin.append_ #[27, 27] 27 #[.slice (some ⟨g, 0, none⟩) n cap, .slice (some ⟨w.heap.size, 0, none⟩) 1 1]).run Try.prog (w.alloc (.cells #[.int .u8 x] 5)) = .ok (.slice (some ⟨g', 0, none⟩) (n + 1) cap') w2 ∧ Gr w0 w2 g' cap' (l ++ [x]) :=
  (h.more ((Keep.refl _ _).alloc _)).app hn (row_new w [x] (0, 0) w.heap.size 1 rfl (by simp) (by omega) (by simpa using hx)) hlen

/-- Room that has just been made. -/
theorem make_room (n : Nat) (hn : n ≤ 140737488355323) (w : World) : ∃ w', (Instr.makeSlice 27 (.int .i64 0) (.int .i64 (n : Int))).run Try.prog w = .ok (.slice (some ⟨w.heap.size, 0, none⟩) 0 n) w' ∧ Gr w w' w.heap.size n [] := by
  obtain ⟨i, hi, hz0, hz1, hz2⟩ := info_parts info5
  have hr := run_make (P := Try.prog) w 27 5 i (.int .u8 0) Try.underlying27 hi hz0 .i64 .i64 0 n (by omega) (by omega) (by rw [hz2]; omega) (by omega)
  rw [hz1, Nat.mul_one, Int.toNat_natCast] at hr
  refine ⟨_, hr, ⟨rfl, by simp, by omega, by simp, Or.inl rfl⟩, fun j hj => ?_, Nat.le_refl _, (Keep.refl _ _).alloc _⟩
  exact ⟨Option.isSome_iff_exists.2 ⟨_, (World.rowIs_made w (.int .u8 0) n 5).cell hj⟩, (World.rowIs_made w (.int .u8 0) n 5).frozen j⟩

theorem bor8 {x : Int} (h : 0 ≤ x ∧ x < 128) : bits .or .u8 x 128 = x + 128 := by
  obtain ⟨a, rfl⟩ := Int.eq_ofNat_of_zero_le h.1
  show IntKind.u8.wrap ((BitVec.ofInt 8 (a : Int) ||| BitVec.ofInt 8 128).toNat : Int) = _
  have h1 : a < 2 ^ 7 := by omega
  have e : (2 ^ 7 * 1 + a) = (2 ^ 7 * 1 ||| a) := Nat.two_pow_add_eq_or_of_lt h1 1
  rw [IntKind.wrap_u8, BitVec.toNat_or, BitVec.ofInt_natCast, BitVec.toNat_ofNat, Nat.mod_eq_of_lt (by omega), show (BitVec.ofInt 8 128).toNat = 2 ^ 7 * 1 by decide, Nat.or_comm, ← e]
  omega

/-- Put. -/
theorem put_any {w : World} {a : Option Addr} {len cap : Nat} {l : List Int} (hr : Row w a len cap l) {v : Int} (hv : 0 ≤ v ∧ v ≤ 18446744073709551615) (hl : len ≤ 140737488355300) :
    Calls Try.prog 11 #[.slice a len cap, .int .u64 v] w fun e w' => ∃ g cap', e = .returned (.slice (some ⟨g, 0, none⟩) (len + (vb v).length) cap') ∧ Gr w w' g cap' (l ++ vb v) := by
  have hten := vb_ten hv.2
  obtain ⟨w1, hmk, hG1⟩ := make_room (len + (vb v).length) (by omega) w
  obtain ⟨g2, cap2, w2, hrun2, hG2⟩ := hG1.app rfl (hr.keep hG1.keep (fun _ _ _ e => e)) (by simp; omega)
  rw [List.nil_append] at hG2
  simp only [List.length_nil, Nat.zero_add] at hrun2
  have hvl := len_any hv w
  go_enter Try.func11, Try.ntmps11
  go_wp2_with fail
  refine hvl.mono ?_
  rintro e w' ⟨rfl, rfl⟩
  rw [Int.natCast_add] at hmk
  go_wp2_with (at_builtin; refine wpList_append_run rfl (.tmp 12) (.tmp 13) 27 rfl (by rfl) (by rfl) hrun2 ?_)
  clear hrun2 hmk hvl hG1
  have hlen := hr.1
  go_loopw [1, 5] (fun u c wr => ∃ (x : Int) (g' cap' : Nat) (m : List Int), 0 ≤ x ∧ x ≤ 18446744073709551615 ∧ u = .int .u64 x ∧ c = .slice (some ⟨g', 0, none⟩) (len + m.length) cap' ∧ Gr w' wr g' cap' (l ++ m) ∧ vb v = m ++ vb x) (fun u _ _ => (intOf u).toNat)
  case atStart => exact ⟨v, g2, cap2, [], hv.1, hv.2, rfl, by simp, by simpa using hG2, by simp⟩
  case round =>
    obtain ⟨x, g', cap', m, h0, h1, rfl, rfl, hG, hm⟩ := hrel
    have hml : m.length ≤ 9 := by
      have h1 := congrArg List.length hm
      have h2 := vb_pos x
      rw [List.length_append] at h1
      omega
    have hll : (l ++ m).length = len + m.length := by rw [List.length_append, hlen]
    by_cases hx : 128 ≤ x
    · obtain ⟨g3, cap3, w3, hrun3, hG3⟩ := hG.one hll (x := x % 128 + 128) (by omega) (by omega)
      rw [vb_big hx] at hm
      have HM : Hid (vb v = m ++ (x % 128 + 128) :: vb (x / 128)) := hm
      have HL : Hid (l.length = len) := hlen
      have hb8 := bor8 (x := x % 128) (by omega)
      have hq : x % 128 % 256 = x % 128 := by omega
      clear hm hlen hll hG2
      go_wp2_with (at_builtin; refine wpList_append_run rfl (.tmp 17) (.tmp 22) 27 rfl (by rfl) (by rfl) hrun3 ?_)
      refine ⟨⟨x / 128, g3, cap3, m ++ [x % 128 + 128], by omega, by omega, rfl, by simp [Nat.add_assoc], by rw [← List.append_assoc]; exact hG3, by rw [HM.out]; simp⟩, by simp [intOf]; omega⟩
    · obtain ⟨g3, cap3, w3, hrun3, hG3⟩ := hG.one hll (x := x) (by omega) (by omega)
      rw [vb_small hx] at hm
      have HM : Hid (vb v = m ++ [x]) := hm
      have HL : Hid (l.length = len) := hlen
      have hq : x % 256 = x := by omega
      clear hm hlen hll hG2
      go_wp2_with (at_builtin; refine wpList_append_run rfl (.tmp 26) (.tmp 29) 27 rfl (by rfl) (by rfl) hrun3 ?_)
      go_ret
      rw [HM.out, ← List.append_assoc]
      refine ⟨g3, cap3, ?_, hG3⟩
      rw [List.length_append, ← Nat.add_assoc]
      rfl

theorem Gr.at {w0 w : World} {g cap : Nat} {l : List Int} (h : Gr w0 w g cap l) {n : Nat} (hn : l.length = n) : Row w (some ⟨g, 0, none⟩) n cap l := hn ▸ h.row

/-- PutInt. -/
theorem putint_any {w : World} {a : Option Addr} {len cap : Nat} {l : List Int} (hr : Row w a len cap l) {v : Int} (hv : -9223372036854775808 ≤ v ∧ v ≤ 9223372036854775807) (hl : len ≤ 140737488355300) :
    Calls Try.prog 10 #[.slice a len cap, .int .i64 v] w fun e w' => ∃ g cap', e = .returned (.slice (some ⟨g, 0, none⟩) (len + (vb (fold v)).length) cap') ∧ Gr w w' g cap' (l ++ vb (fold v)) := by
  have hf := fold_any hv w
  have hp := put_any hr (fold_bd hv) hl
  go_enter Try.func10, Try.ntmps10
  go_wp2_with fail
  refine hf.mono ?_
  rintro e w' ⟨rfl, rfl⟩
  go_wp2_with fail
  refine hp.mono ?_
  rintro e w2 ⟨g, cap', rfl, hG⟩
  go_wp2_with fail
  go_ret
  exact ⟨g, cap', rfl, hG⟩
end Tg
end Go.Proofs.Ytknnaoloebknjaa
