/-
  What the program's Sum and More, and the document's own, answer: walked over any memory and any row of bytes.
-/
import Derived.Test.YtgohmjidbbecpaaBase
import Derived.Test.YtgohmjidbbecpaaMath
namespace Go.Proofs.Ytgohmjidbbecpaa
open Go.ChangeShapes Go.WideShapes Go.ChangeAt Go.RowKit
namespace Crc
open Tg

/-- The integer that a word of 32 bits is. -/
def val (c : BitVec 32) : Int := (c.toNat : Int)

theorem val_bd (c : BitVec 32) : 0 ≤ val c ∧ val c ≤ 4294967295 := by have := c.isLt; unfold val; omega
theorem val_inj {a b : BitVec 32} (h : val a = val b) : a = b := by unfold val at h; exact BitVec.eq_of_toNat_eq (by omega)
theorem val_of {n : Int} (h : 0 ≤ n ∧ n ≤ 4294967295) : ∃ c, n = val c := ⟨BitVec.ofInt 32 n, by rw [val, BitVec.toNat_ofInt]; omega⟩

theorem ret_u32 {a b : Int} (h : a = b) : Ending.returned (.int .u32 a) = .returned (.int .u32 b) := by rw [h]

theorem ofInt_val (a : BitVec 32) : BitVec.ofInt 32 (val a) = a := by
  rw [val, BitVec.ofInt_natCast, BitVec.ofNat_toNat, BitVec.setWidth_eq]

theorem bxor (a b : BitVec 32) : bits .xor .u32 (val a) (val b) = val (a ^^^ b) := by
  show IntKind.u32.wrap ((BitVec.ofInt 32 (val a) ^^^ BitVec.ofInt 32 (val b)).toNat : Int) = _
  rw [ofInt_val, ofInt_val, IntKind.wrap_u32, val]
  have := (a ^^^ b).isLt
  omega

theorem band (a b : BitVec 32) : bits .and .u32 (val a) (val b) = val (a &&& b) := by
  show IntKind.u32.wrap ((BitVec.ofInt 32 (val a) &&& BitVec.ofInt 32 (val b)).toNat : Int) = _
  rw [ofInt_val, ofInt_val, IntKind.wrap_u32, val]
  have := (a &&& b).isLt
  omega

theorem shr1 (a : BitVec 32) : val a / (2 : Int) = val (a >>> (1 : Nat)) := by
  rw [val, val, BitVec.toNat_ushiftRight, Nat.shiftRight_eq_div_pow]; omega

theorem lsb (a : BitVec 32) : (bits .and .u32 (val a) 1 == 1) = a.getLsbD 0 := by
  have e : bits .and .u32 (val a) 1 = val (a &&& 1#32) := band a 1#32
  rw [e, val, BitVec.toNat_and]
  have e1 : (1#32).toNat = 1 := rfl
  rw [e1, Nat.and_one_is_mod]
  have h : a.getLsbD 0 = decide (a.toNat % 2 = 1) := by
    rw [BitVec.getLsbD, Nat.testBit_zero]
  rw [h]
  by_cases g : a.toNat % 2 = 1
  · rw [g]; rfl
  · have : a.toNat % 2 = 0 := by omega
    rw [this]; rfl

theorem xpoly (a : BitVec 32) : bits .xor .u32 (val a / 2) 3988292384 = val (a >>> 1 ^^^ poly) := by
  rw [shr1]; exact bxor (a >>> 1) poly

theorem step_t {a : BitVec 32} (h : (bits .and .u32 (val a) 1 == 1) = true) : bits .xor .u32 (val a / 2) 3988292384 = val (step a) := by
  rw [lsb] at h; rw [xpoly]; unfold step; rw [h]; rfl
theorem step_f {a : BitVec 32} (h : (bits .and .u32 (val a) 1 == 1) = false) : val a / 2 = val (step a) := by
  rw [lsb] at h; rw [shr1]; unfold step; rw [h]; rfl

theorem bit_t {x y : BitVec 32} (h : (bits .and .u32 (bits .xor .u32 (val x) (val y)) 1 == 1) = true) : bits .xor .u32 (val x / 2) 3988292384 = val (bit x (y.getLsbD 0)) := by
  rw [bxor, lsb, BitVec.getLsbD_xor] at h; rw [xpoly]; unfold bit; rw [h]; rfl
theorem bit_f {x y : BitVec 32} (h : (bits .and .u32 (bits .xor .u32 (val x) (val y)) 1 == 1) = false) : val x / 2 = val (bit x (y.getLsbD 0)) := by
  rw [bxor, lsb, BitVec.getLsbD_xor] at h; rw [shr1]; unfold bit; rw [h]; rfl

theorem bnot (a : BitVec 32) : bits .xor .u32 IntKind.u32.max (val a) = val (~~~ a) := by
  have e : IntKind.u32.max = val (BitVec.allOnes 32) := by rfl
  rw [e, bxor, BitVec.xor_comm, BitVec.xor_allOnes]

theorem bnot' (a : BitVec 32) : bits .xor .u32 (val a) 4294967295 = val (~~~ a) := by
  have e : (4294967295 : Int) = val (BitVec.allOnes 32) := by rfl
  rw [e, bxor, BitVec.xor_allOnes]

theorem byteOf_val {n : Int} (h : 0 ≤ n ∧ n ≤ 255) : val (byteOf n) = n := by
  rw [byteOf, val, BitVec.toNat_ofInt]
  omega

theorem bxor_byte (a : BitVec 32) {n : Int} (h : 0 ≤ n ∧ n ≤ 255) : bits .xor .u32 (val a) n = val (a ^^^ byteOf n) := by
  rw [← bxor, byteOf_val h]

theorem shift_any (x : BitVec 32) (w : World) :
    Calls Try.prog 28 #[.int .u32 (val x)] w fun e w' => e = .returned (.int .u32 (val (steps 8 x))) ∧ w' = w := by
  go_enter Try.func28, Try.ntmps28
  go_wp2
  go_loop [0, 3] (fun c i => ∃ k : Nat, k ≤ 8 ∧ i = .int .i64 k ∧ c = .int .u32 (val (steps k x))) (fun _ i => 8 - (intOf i).toNat)
  case atStart => exact ⟨0, by omega, rfl, rfl⟩
  case round =>
    obtain ⟨k, hk, rfl, rfl⟩ := hrel
    by_cases hlt : k < 8
    · go_wp2
      · go_round
        case rel => exact ⟨k + 1, by omega, by go_num, by rw [step_t ‹_›]; rfl⟩
        case measure => simp [intOf]; omega
      · go_round
        case rel => exact ⟨k + 1, by omega, by go_num, by rw [step_f ‹_›]; rfl⟩
        case measure => simp [intOf]; omega
    · have h8 : k = 8 := by omega
      subst h8
      go_wp2
      go_ret
      exact ⟨rfl, rfl⟩

theorem bit_any (x y : BitVec 32) (w : World) :
    Calls Try.prog 29 #[.int .u32 (val x), .int .u32 (val y)] w fun e w' => e = .returned (.int .u32 (val (bit x (y.getLsbD 0)))) ∧ w' = w := by
  go_enter Try.func29, Try.ntmps29
  go_wp2
  · go_ret
    exact ⟨ret_u32 (bit_t ‹_›), rfl⟩
  · go_ret
    exact ⟨ret_u32 (bit_f ‹_›), rfl⟩

theorem take_succ (l : List Int) (k : Nat) (h : k < l.length) : l.take (k + 1) = l.take k ++ [l.getD k 0] := by
  rw [List.take_succ_eq_append_getElem h]; simp [List.getD, h]

theorem run_snoc (c : BitVec 32) (l : List Int) (k : Nat) (h : k < l.length) : run c (l.take (k + 1)) = steps 8 (run c (l.take k) ^^^ byteOf (l.getD k 0)) := by
  rw [take_succ l k h, run_append]; rfl

set_option maxHeartbeats 400000 in
theorem more_any (s : BitVec 32) (a : Option Addr) (len cap : Nat) (l : List Int) (w : World) (hr : Row w a len cap l) :
    Calls Try.prog 26 #[.int .u32 (val s), .slice a len cap] w fun e w' => e = .returned (.int .u32 (val (more s l))) ∧ w' = w := by
  obtain ⟨hl, hlc, hcap, hb, hrow⟩ := hr
  have hn := bnot s
  go_enter Try.func26, Try.ntmps26
  go_wp2
  clear hn
  go_loop [5, 12] (fun c i => ∃ k : Nat, k ≤ len ∧ i = .int .i64 k ∧ c = .int .u32 (val (run (~~~ s) (l.take k)))) (fun _ i => len - (intOf i).toNat)
  case atStart => exact ⟨0, by omega, rfl, rfl⟩
  case round =>
    obtain ⟨k, hk, rfl, rfl⟩ := hrel
    by_cases hlt : k < len
    · have hbk := getD_bound hb k
      rcases hrow with h0 | ⟨b, o, rfl, hcell⟩
      · omega
      · have hc := hcell k hlt
        have hs := run_snoc (~~~ s) l k (by omega)
        have HS : Hid (run (~~~ s) (l.take (k + 1)) = steps 8 (run (~~~ s) (l.take k) ^^^ byteOf (l.getD k 0))) := hs
        have hx := bxor_byte (run (~~~ s) (l.take k)) hbk
        clear hs hcell hb hl
        generalize run (~~~ s) (l.take k) = c at hx HS ⊢
        generalize l.getD k 0 = n at hx hc HS hbk
        go_wp2_with (go_at_call 28; refine (shift_any _ _).mono ?_; rintro e w' ⟨rfl, rfl⟩)
        go_round
        case rel => exact ⟨k + 1, by omega, by go_num, by rw [HS.out]⟩
        case measure => simp [intOf]; omega
    · obtain rfl : k = len := by omega
      go_wp2
      go_ret
      exact ⟨ret_u32 (by rw [bnot, List.take_of_length_le (by omega)]; rfl), rfl⟩

theorem sum_any (a : Option Addr) (len cap : Nat) (l : List Int) (w : World) (hr : Row w a len cap l) :
    Calls Try.prog 20 #[.slice a len cap] w fun e w' => e = .returned (.int .u32 (val (more 0#32 l))) ∧ w' = w := by
  have H : Calls Try.prog 26 #[.int .u32 0, .slice a len cap] w fun e w' => e = .returned (.int .u32 (val (more 0#32 l))) ∧ w' = w := more_any 0#32 a len cap l w hr
  go_enter Try.func20, Try.ntmps20
  go_wp2_with (go_at_call 26; refine H.mono ?_; rintro e w' ⟨rfl, rfl⟩)
  go_ret
  exact ⟨rfl, rfl⟩

theorem ref_bit {n : Int} (h : 0 ≤ n ∧ n ≤ 255) (q : Nat) : ∃ y : BitVec 32, bits .and .u32 (n / 2 ^ q % 4294967296) 1 = val y ∧ y.getLsbD 0 = (byteOf n).getLsbD q := by
  have e : n / 2 ^ q % 4294967296 = val (byteOf n >>> q) := by
    have hv := byteOf_val h
    have h1 : val (byteOf n >>> q) = n / 2 ^ q := by
      rw [val] at hv
      rw [val, BitVec.toNat_ushiftRight, Nat.shiftRight_eq_div_pow]
      conv => rhs; rw [← hv]
      simp
    rw [h1]
    have h2 : 0 ≤ n / 2 ^ q := Int.ediv_nonneg h.1 (Int.pow_nonneg (by decide))
    have h3 : n / 2 ^ q ≤ n := Int.ediv_le_self _ h.1
    omega
  refine ⟨byteOf n >>> q &&& 1#32, ?_, ?_⟩
  · rw [e]; exact band _ 1#32
  · simp

set_option maxHeartbeats 400000 in
theorem refmore_any (s : BitVec 32) (a : Option Addr) (len cap : Nat) (l : List Int) (w : World) (hr : Row w a len cap l) :
    Calls Try.prog 27 #[.int .u32 (val s), .slice a len cap] w fun e w' => e = .returned (.int .u32 (val (more s l))) ∧ w' = w := by
  obtain ⟨hl, hlc, hcap, hb, hrow⟩ := hr
  have hn := bnot' s
  go_enter Try.func27, Try.ntmps27
  go_wp2
  clear hn
  go_loop [5, 6] (fun c i => ∃ k : Nat, k ≤ len ∧ i = .int .i64 k ∧ c = .int .u32 (val (run (~~~ s) (l.take k)))) (fun _ i => len - (intOf i).toNat)
  case atStart => exact ⟨0, by omega, rfl, rfl⟩
  case round =>
    obtain ⟨k, hk, rfl, rfl⟩ := hrel
    by_cases hlt : k < len
    · have hbk := getD_bound hb k
      rcases hrow with h0 | ⟨b, o, rfl, hcell⟩
      · omega
      · have hc := hcell k hlt
        have hs := run_snoc (~~~ s) l k (by omega)
        have HS : Hid (run (~~~ s) (l.take (k + 1)) = steps 8 (run (~~~ s) (l.take k) ^^^ byteOf (l.getD k 0))) := hs
        clear hs hcell hb hl
        generalize run (~~~ s) (l.take k) = c at HS ⊢
        generalize l.getD k 0 = n at hc HS hbk
        go_wp2
        go_loop [5, 7] (fun u j => ∃ q : Nat, q ≤ 8 ∧ j = .int .i64 q ∧ u = .int .u32 (val (bitsOf c (byteOf n) q))) (fun _ j => 8 - (intOf j).toNat)
        case atStart => exact ⟨0, by omega, rfl, rfl⟩
        case round =>
          obtain ⟨q, hq, rfl, rfl⟩ := hrel
          by_cases hlq : q < 8
          · obtain ⟨y, hy, hyq⟩ := ref_bit hbk q
            have HB : Hid (bitsOf c (byteOf n) (q + 1) = bit (bitsOf c (byteOf n) q) (y.getLsbD 0)) := by show _ = _; rw [hyq]; rfl
            clear hyq
            generalize bitsOf c (byteOf n) q = d at HB ⊢
            go_wp2_with (go_at_call 29; refine (bit_any _ _ _).mono ?_; rintro e w' ⟨rfl, rfl⟩)
            go_round
            case rel => exact ⟨q + 1, by omega, by go_num, by rw [HB.out]; rfl⟩
            case measure => simp [intOf]; omega
          · obtain rfl : q = 8 := by omega
            have HE : Hid (run (~~~ s) (l.take (k + 1)) = bitsOf c (byteOf n) 8) := by show _ = _; rw [← eat_bits c n hbk.1 hbk.2]; exact HS.out
            clear HS
            go_wp2
            go_round
            case rel => exact ⟨k + 1, by omega, by go_num, by rw [HE.out]⟩
            case measure => simp [intOf]; omega
    · obtain rfl : k = len := by omega
      go_wp2
      go_ret
      exact ⟨ret_u32 (by rw [bnot', List.take_of_length_le (by omega)]; rfl), rfl⟩

theorem refsum_any (a : Option Addr) (len cap : Nat) (l : List Int) (w : World) (hr : Row w a len cap l) :
    Calls Try.prog 24 #[.slice a len cap] w fun e w' => e = .returned (.int .u32 (val (more 0#32 l))) ∧ w' = w := by
  have H : Calls Try.prog 27 #[.int .u32 0, .slice a len cap] w fun e w' => e = .returned (.int .u32 (val (more 0#32 l))) ∧ w' = w := refmore_any 0#32 a len cap l w hr
  go_enter Try.func24, Try.ntmps24
  go_wp2_with (go_at_call 27; refine H.mono ?_; rintro e w' ⟨rfl, rfl⟩)
  go_ret
  exact ⟨rfl, rfl⟩

end Crc
end Go.Proofs.Ytgohmjidbbecpaa
