/-
  The small parts of the document's own pages: Kind, Clean, get and put.
-/
import Derived.Test.YtgohmjidbbecpaaSame
namespace Go.Proofs.Ytgohmjidbbecpaa
open Go.ChangeShapes Go.WideShapes Go.ChangeAt Go.RowKit
namespace Tg
open Crc

theorem rkind_any (k : Int) (w : World) : Calls Try.prog 13 #[.int .i64 k] w fun e w' => e = .returned (.bool (decide (1 ≤ k ∧ k ≤ 3))) ∧ w' = w := by
  by_cases h1 : 1 ≤ k
  · by_cases h2 : k ≤ 3
    · go_enter Try.func13, Try.ntmps13; go_wp2
      go_ret
      exact ⟨ret_b (by simp; omega), rfl⟩
    · have h2' : ¬ k ≤ 3 := h2
      go_enter Try.func13, Try.ntmps13; go_wp2
      go_ret
      exact ⟨ret_b (by rw [Bool.eq_iff_iff]; simp; omega), rfl⟩
  · have h1' : decide (1 ≤ k) = false := by simpa using h1
    go_enter Try.func13, Try.ntmps13; go_wp2
    go_ret
    exact ⟨rfl, rfl⟩

theorem rclean_any {w : World} {a : Option Addr} {len cap : Nat} {l : List Int} (hr : Row w a len cap l) : Calls Try.prog 17 #[.slice a len cap] w fun e w' => e = .returned (.bool (cleanB l)) ∧ w' = w := by
  obtain ⟨h1, h2, h3, h4, h5⟩ := hr
  have hlen : (len : Int) ≤ 9223372036854775807 := by omega
  go_enter Try.func17, Try.ntmps17
  go_wp2
  go_loop [3] (fun i => ∃ k : Nat, k ≤ len ∧ i = .int .i64 k ∧ ∀ j, j < k → l.getD j 0 = 255) (fun i => len - (intOf i).toNat)
  case atStart => exact ⟨0, by omega, rfl, fun j hj => by omega⟩
  case round =>
    obtain ⟨k, hk, rfl, hall⟩ := hrel
    by_cases hlt : k < len
    · rcases h5 with h0 | ⟨b, o, rfl, hc⟩
      · omega
      have hck := hc k hlt
      by_cases h255 : l.getD k 0 = 255
      · rw [h255] at hck
        have HA : Hid (∀ j, j < k → l.getD j 0 = 255) := hall
        have H5 : Hid (l.getD k 0 = 255) := h255
        clear hc hall h255 h1
        go_wp2_with fail
        go_round
        case rel =>
          refine ⟨k + 1, by omega, by go_num, fun j hj => ?_⟩
          by_cases e : j = k
          · subst e; exact H5.out
          · exact HA.out j (by omega)
        case measure => simp [intOf]; omega
      · have hn : cleanB l = false := by
          unfold cleanB; rw [decide_eq_false]
          rintro ⟨_, hx⟩
          exact h255 (hx _ (by simp [List.getD, h1, hlt]))
        have HN : Hid (cleanB l = false) := hn
        clear hn hc hall h1
        generalize l.getD k 0 = n at hck h255
        go_wp2_with fail
        go_ret
        exact ⟨ret_b HN.out.symm, rfl⟩
    · obtain rfl : k = len := by omega
      have hn : (((k : Int) == 68) : Bool) = cleanB l := by
        unfold cleanB
        rw [Bool.eq_iff_iff, beq_iff_eq, decide_eq_true_eq]
        constructor
        · intro e
          refine ⟨by omega, fun x hx => ?_⟩
          obtain ⟨i, hi, rfl⟩ := List.getElem_of_mem hx
          have := hall i (by omega)
          simpa [List.getD, hi] using this
        · intro e; omega
      clear hall
      go_wp2_with fail
      go_ret
      exact ⟨rfl, rfl⟩

/-- The number that the bytes from q on are. -/
def rnum (d : Nat → Int) (q : Nat) : Int := if q = 0 then num d 4 else if q = 1 then d 1 + 256 * d 2 + 65536 * d 3 else if q = 2 then d 2 + 256 * d 3 else if q = 3 then d 3 else 0
theorem or_low {x y : Int} (hx : 0 ≤ x ∧ x < 16777216) (hy : 0 ≤ y ∧ y ≤ 255) : bits .or .u32 (x * 256) y = x * 256 + y := by
  obtain ⟨a, rfl⟩ := Int.eq_ofNat_of_zero_le hx.1
  obtain ⟨b, rfl⟩ := Int.eq_ofNat_of_zero_le hy.1
  have e : ((a : Int) * 256) = ((2 ^ 8 * a : Nat) : Int) := by rw [show 2 ^ 8 * a = a * 256 by omega, Int.natCast_mul]; rfl
  rw [e, bor _ _ (by omega) (by omega), ← Nat.two_pow_add_eq_or_of_lt (by omega), Int.natCast_add]
theorem rnum_step {d : Nat → Int} (h : ∀ i, i < 4 → 0 ≤ d i ∧ d i ≤ 255) {q : Nat} (hq : q < 4) : 0 ≤ rnum d (q + 1) ∧ rnum d (q + 1) < 16777216 ∧ rnum d q = rnum d (q + 1) * 256 + d q := by
  have h0 := h 0 (by omega); have h1 := h 1 (by omega); have h2 := h 2 (by omega); have h3 := h 3 (by omega)
  have e4 := num4 d
  have : q = 0 ∨ q = 1 ∨ q = 2 ∨ q = 3 := by omega
  rcases this with rfl | rfl | rfl | rfl <;> simp [rnum] <;> omega

theorem rget_any {w : World} {g o len cap s : Nat} {d : Nat → Int} (h : ∀ i, i < 4 → w.cell? ⟨g, o + (s + i), none⟩ = some (.int .u8 (d i))) (hd : ∀ i, i < 4 → 0 ≤ d i ∧ d i ≤ 255) (hl : s + 4 ≤ len) (hlen : len ≤ 9223372036854775807) :
    Calls Try.prog 25 #[.slice (some ⟨g, o, none⟩) len cap, .int .i64 s] w fun e w' => e = .returned (.int .u32 (num d 4)) ∧ w' = w := by
  go_enter Try.func25, Try.ntmps25
  go_wp2
  go_loop [5, 6] (fun c i => ∃ q : Nat, q ≤ 4 ∧ i = .int .i64 ((q : Int) - 1) ∧ c = .int .u32 (rnum d q)) (fun _ i => (intOf i + 1).toNat)
  case atStart => exact ⟨4, by omega, rfl, rfl⟩
  case round =>
    obtain ⟨q, hq, rfl, rfl⟩ := hrel
    rcases q with _ | q
    · go_wp2_with fail
      go_ret
      exact ⟨rfl, rfl⟩
    · have hc := h q (by omega)
      have hdk := hd q (by omega)
      obtain ⟨e0, e1, e2⟩ := rnum_step hd (q := q) (by omega)
      have e3 := or_low ⟨e0, e1⟩ hdk
      rw [← e2] at e3
      have HO : Hid (bits .or .u32 (rnum d (q + 1) * 256) (d q) = rnum d q) := e3
      have hi : ((q + 1 : Nat) : Int) - 1 = q := by omega
      rw [hi]
      clear e2 e3 h hd hi
      generalize rnum d (q + 1) = x at *
      have hsq : (s : Int) + q < len := by omega
      go_wp2_with fail
      go_round
      case rel => exact ⟨q, by omega, rfl, by rw [← HO.out]⟩
      case measure => simp [intOf]

/-- A row of bytes of one's own that may grow. -/
structure Gr (w0 w : World) (g cap : Nat) (l : List Int) : Prop where
  row : Row w (some ⟨g, 0, none⟩) l.length cap l
  free : Free w g cap
  new : w0.heap.size ≤ g
  keep : Keep (fun _ => False) w0 w

theorem Gr.app {w0 w : World} {g cap : Nat} {l : List Int} (h : Gr w0 w g cap l) {n : Nat} (hn : l.length = n) {a2 : Option Addr} {m c : Nat} {l2 : List Int} (hr2 : Row w a2 m c l2) (hlen : n + m ≤ 140737488355323) :
    ∃ g' cap' w2, (Builtin.append_ #[23, 23] 23 #[.slice (some ⟨g, 0, none⟩) n cap, .slice a2 m c]).run Try.prog w = .ok (.slice (some ⟨g', 0, none⟩) (n + m) cap') w2 ∧ Gr w0 w2 g' cap' (l ++ l2) := by
  subst hn
  obtain ⟨g', cap', w2, hrun, hrow, hk, hg, hf⟩ := append_rows w g cap l.length l h.row h.free a2 m c l2 hr2 hlen
  have hm : (l ++ l2).length = l.length + m := by rw [List.length_append, hr2.1]
  have hn := h.new
  refine ⟨g', cap', w2, hrun, by rw [hm]; exact hrow, hf, ?_, h.keep.next hk (fun x hx e => by omega)⟩
  rcases hg with rfl | hg
  · exact hn
  · have := h.keep.size; omega
theorem Gr.drew {w0 w : World} {g cap : Nat} {l : List Int} (h : Gr w0 w g cap l) : Gr w0 w.drew g cap l := ⟨h.row.keep ((Keep.refl (fun _ => False) w).drew) (fun _ _ _ e => e), h.free.keep ((Keep.refl (fun _ => False) w).drew) (fun e => e), h.new, h.keep.drew⟩
theorem Gr.more {w0 w w' : World} {g cap : Nat} {l : List Int} (h : Gr w0 w g cap l) (k : Keep (fun _ => False) w w') : Gr w0 w' g cap l := ⟨h.row.keep k (fun _ _ _ e => e), h.free.keep k (fun e => e), h.new, h.keep.trans k⟩

def bytes4 (x : Int) : List Int := [le x 0, le x 1, le x 2, le x 3]
set_option maxHeartbeats 400000 in
theorem rput_any {w0 w : World} {g cap : Nat} {l : List Int} (h : Gr w0 w g cap l) (hl : l.length ≤ 1000) (x : Int) (n : Nat) (hn : n = l.length) :
    Calls Try.prog 23 #[.slice (some ⟨g, 0, none⟩) n cap, .int .u32 x] w fun e w' => ∃ g' cap', e = .returned (.slice (some ⟨g', 0, none⟩) (n + 4) cap') ∧ Gr w0 w' g' cap' (l ++ bytes4 x) := by
  go_enter Try.func23, Try.ntmps23
  go_wp2
  go_loopw [0, 5] (fun b i wr => ∃ (k g' cap' : Nat), k ≤ 4 ∧ i = .int .i64 k ∧ b = .slice (some ⟨g', 0, none⟩) (n + k) cap' ∧ Gr w0 wr g' cap' (l ++ (bytes4 x).take k)) (fun _ i _ => 4 - (intOf i).toNat)
  case atStart => exact ⟨0, g, cap, by omega, rfl, by simp, by simpa using h⟩
  case round =>
    obtain ⟨k, g', cap', hk, rfl, rfl, hg⟩ := hrel
    have hlk : (l ++ (bytes4 x).take k).length = n + k := by simp [bytes4]; omega
    by_cases hlt : k < 4
    · have hb := le_bd x k
      have hK : Keep (fun _ => False) wr (wr.alloc (.cells #[.int .u8 (le x k)] 5)) := (Keep.refl _ _).alloc _
      obtain ⟨g2, cap2, w2, hrun, hg2⟩ := (hg.more hK).app hlk (row_new wr [le x k] (0, 0) wr.heap.size 1 rfl (by simp) (by omega) (by simpa using hb)) (by simp; omega)
      have ht : (bytes4 x).take (k + 1) = (bytes4 x).take k ++ [le x k] := by
        have : k = 0 ∨ k = 1 ∨ k = 2 ∨ k = 3 := by omega
        rcases this with rfl | rfl | rfl | rfl <;> rfl
      rw [List.append_assoc, ← ht] at hg2
      have HL : le x k = x / 2 ^ (8 * k) % 256 := by rw [pow8]; rfl
      rw [HL] at hrun
      have h64 : IntKind.u64.wrap (8 * (k : Int)) = 8 * k := by rw [IntKind.wrap_u64]; omega
      clear ht hK hg hlk HL hb h
      simp only [List.length_cons, List.length_nil, Nat.zero_add] at hrun
      go_wp2_with (at_builtin; refine wpList_append_run rfl (.tmp 10) (.tmp 17) 23 rfl (by rfl) (by rfl) hrun ?_)
      clear hrun
      exact ⟨⟨k + 1, g2, cap2, by omega, by go_num, by simp [hn, Nat.add_assoc], hg2⟩, by simp [intOf]; omega⟩
    · obtain rfl : k = 4 := by omega
      rw [show (bytes4 x).take 4 = bytes4 x from rfl] at *
      go_wp2_with fail
      go_ret
      exact ⟨_, _, rfl, hg⟩
end Tg
end Go.Proofs.Ytgohmjidbbecpaa
