/-
  The landed sum (stage 3's). Runes, copies of texts (stage 20's). A store in memory: its eight entries; an entry by itself. A store's entries searched: by name, by sectors, for a free one. The landed code's Good. Numbers of an entry: getNumber, putNumber. An entry's bytes, as the landed code tells them.
-/
import Derived.Test.YtjgnajopomadpaaGreatRb
import Derived.WalkKit
import Derived.ProofKit
import Derived.OpenShut
import Derived.ShutString
import Derived.ChangeOld
import Derived.Below
import Derived.Deep.OwnRows
import Derived.Laws.IdiomCopy
import Derived.Lib.SlBytesConst
import Derived.Lib.ConvBytes
import Derived.Laws.BytesArg
import Derived.SizedLaws
import Derived.ArgAppend
import Derived.Laws.RangeAny
import Derived.BigQuiet
import Derived.Shelf.Strconv.Clone
namespace Go.Proofs.YtjgnajopomadpaaGreat
open Go.ChangeShapes Go.WideShapes Go.ChangeAt Go.RowKit
namespace Tg
end Tg
namespace Crc
open Tg in
theorem step_t {a : BitVec 32} (h : (bits .and .u32 (val a) 1 == 1) = true) : bits .xor .u32 (val a / 2) 3988292384 = val (step a) := by
  rw [lsb] at h; rw [xpoly]; unfold step; rw [h]; rfl
open Tg in
theorem step_f {a : BitVec 32} (h : (bits .and .u32 (val a) 1 == 1) = false) : val a / 2 = val (step a) := by
  rw [lsb] at h; rw [shr1]; unfold step; rw [h]; rfl
open Tg in
theorem bnot (a : BitVec 32) : bits .xor .u32 IntKind.u32.max (val a) = val (~~~ a) := by
  have e : IntKind.u32.max = val (BitVec.allOnes 32) := by rfl
  rw [e, bxor, BitVec.xor_comm, BitVec.xor_allOnes]
open Tg in
theorem bxor_byte (a : BitVec 32) {n : Int} (h : 0 ≤ n ∧ n ≤ 255) : bits .xor .u32 (val a) n = val (a ^^^ byteOf n) := by
  rw [← bxor, byteOf_val h]
open Tg in
set_option maxRecDepth 100000 in
theorem shift_any (x : BitVec 32) (w : World) :
    Calls Tryz.prog 78 #[.int .u32 (val x)] w fun e w' => e = .returned (.int .u32 (val (steps 8 x))) ∧ w' = w := by
  go_enter Tryz.func78, Tryz.ntmps78
  go_wp2
  go_loop [0, 3] (fun c i => ∃ k : Nat, k ≤ 8 ∧ i = .int .i64 k ∧ c = .int .u32 (val (steps k x))) (fun _ i => 8 - (intOf i).toNat)
  case atStart => exact ⟨0, by omega, rfl, rfl⟩
  case round =>
    obtain ⟨k, hk, rfl, rfl⟩ := hrel
    by_cases hlt : k < 8
    · go_wp2
      · go_round
        case rel => exact ⟨k + 1, by omega, by go_num, by rw [step_t ‹_›]; rfl⟩
        case measure => simp [intOf]; omega
      · go_round
        case rel => exact ⟨k + 1, by omega, by go_num, by rw [step_f ‹_›]; rfl⟩
        case measure => simp [intOf]; omega
    · have h8 : k = 8 := by omega
      subst h8
      go_wp2
      go_ret
      exact ⟨rfl, rfl⟩
open Tg in
set_option maxHeartbeats 400000 in
set_option maxRecDepth 100000 in
theorem more_any (s : BitVec 32) (a : Option Addr) (len cap : Nat) (l : List Int) (w : World) (hr : Row w a len cap l) :
    Calls Tryz.prog 76 #[.int .u32 (val s), .slice a len cap] w fun e w' => e = .returned (.int .u32 (val (more s l))) ∧ w' = w := by
  obtain ⟨hl, hlc, hcap, hb, hrow⟩ := hr
  have hn := bnot s
  go_enter Tryz.func76, Tryz.ntmps76
  go_wp2
  clear hn
  go_loop [5, 12] (fun c i => ∃ k : Nat, k ≤ len ∧ i = .int .i64 k ∧ c = .int .u32 (val (run (~~~ s) (l.take k)))) (fun _ i => len - (intOf i).toNat)
  case atStart => exact ⟨0, by omega, rfl, rfl⟩
  case round =>
    obtain ⟨k, hk, rfl, rfl⟩ := hrel
    by_cases hlt : k < len
    · have hbk := getD_bound hb k
      rcases hrow with h0 | ⟨b, o, rfl, hcell⟩
      · omega
      · have hc := hcell k hlt
        have hs := run_snoc (~~~ s) l k (by omega)
        have HS : RowKit.Hid (run (~~~ s) (l.take (k + 1)) = steps 8 (run (~~~ s) (l.take k) ^^^ byteOf (l.getD k 0))) := hs
        have hx := bxor_byte (run (~~~ s) (l.take k)) hbk
        clear hs hcell hb hl
        generalize run (~~~ s) (l.take k) = c at hx HS ⊢
        generalize l.getD k 0 = n at hx hc HS hbk
        go_wp2_with (go_at_call 78; refine (shift_any _ _).mono ?_; rintro e w' ⟨rfl, rfl⟩)
        go_round
        case rel => exact ⟨k + 1, by omega, by go_num, by rw [HS.out]⟩
        case measure => simp [intOf]; omega
    · obtain rfl : k = len := by omega
      go_wp2
      go_ret
      exact ⟨ret_u32 (by rw [bnot, List.take_of_length_le (by omega)]; rfl), rfl⟩
open Tg in
set_option maxRecDepth 100000 in
theorem sum_any (a : Option Addr) (len cap : Nat) (l : List Int) (w : World) (hr : Row w a len cap l) :
    Calls Tryz.prog 71 #[.slice a len cap] w fun e w' => e = .returned (.int .u32 (val (more 0#32 l))) ∧ w' = w := by
  have H : Calls Tryz.prog 76 #[.int .u32 0, .slice a len cap] w fun e w' => e = .returned (.int .u32 (val (more 0#32 l))) ∧ w' = w := more_any 0#32 a len cap l w hr
  go_enter Tryz.func71, Tryz.ntmps71
  go_wp2_with (go_at_call 76; refine H.mono ?_; rintro e w' ⟨rfl, rfl⟩)
  go_ret
  exact ⟨rfl, rfl⟩
end Crc
end Go.Proofs.YtjgnajopomadpaaGreat
namespace Go.Proofs.YtjgnajopomadpaaGreat
open Go.ChangeShapes Go.WideShapes Go.ChangeAt Go.RowKit
namespace Go
end Go
namespace Km
end Km
namespace Qm
end Qm
namespace Qm
def hexd (d : Nat) : Nat := if d < 10 then 48 + d else 87 + d
def hex2 (v : Nat) : List Nat := [hexd (v / 16 % 16), hexd (v % 16)]
def hex4 (v : Nat) : List Nat := [hexd (v / 4096 % 16), hexd (v / 256 % 16), hexd (v / 16 % 16), hexd (v % 16)]
def isU (v : Nat) : Prop := (128 ≤ v ∧ v < 160) ∨ v = 8232 ∨ v = 8233 ∨ v = 65279
instance (v : Nat) : Decidable (isU v) := by unfold isU; infer_instance
def tell (v : Nat) : List Nat :=
  if v = 34 then [92, 34] else if v = 92 then [92, 92] else if v = 10 then [92, 110] else if v = 9 then [92, 116] else if v = 0 then [92, 48]
  else if v < 32 ∨ v = 127 then [92, 120] ++ hex2 v else if isU v then [92, 117] ++ hex4 v else enc v
def tellB (b : Nat) : List Nat := [92, 120] ++ hex2 b
def piece (l : List Nat) : List Nat × Nat := if (rune l).2 = 0 then (tellB (l.headD 0), 1) else (tell (rune l).1, (rune l).2)
theorem piece_pos {l : List Nat} (h : l ≠ []) : 1 ≤ (piece l).2 ∧ (piece l).2 ≤ l.length := by
  unfold piece
  have hl : 1 ≤ l.length := List.length_pos_iff.2 h
  split
  · exact ⟨Nat.le_refl _, hl⟩
  · rename_i h1
    exact ⟨by show 1 ≤ (rune l).2; omega, rune_len⟩
open Go in
def dec (n c d e f : Nat) : Nat × Nat :=
  if c < 128 then (c, 1)
  else if c / 32 = 6 ∧ 1 < n ∧ d / 64 = 2 then (if 128 ≤ c % 32 * 64 + d % 64 then (c % 32 * 64 + d % 64, 2) else (65533, 1))
  else if c / 16 = 14 ∧ (1 < n ∧ d / 64 = 2) ∧ 2 < n ∧ e / 64 = 2 then (if 2048 ≤ c % 16 * 4096 + d % 64 * 64 + e % 64 ∧ valid (c % 16 * 4096 + d % 64 * 64 + e % 64) then (c % 16 * 4096 + d % 64 * 64 + e % 64, 3) else (65533, 1))
  else if c / 8 = 30 ∧ (1 < n ∧ d / 64 = 2) ∧ (2 < n ∧ e / 64 = 2) ∧ 3 < n ∧ f / 64 = 2 then (if 65536 ≤ c % 8 * 262144 + d % 64 * 4096 + e % 64 * 64 + f % 64 ∧ valid (c % 8 * 262144 + d % 64 * 4096 + e % 64 * 64 + f % 64) then (c % 8 * 262144 + d % 64 * 4096 + e % 64 * 64 + f % 64, 4) else (65533, 1))
  else (65533, 1)
open Go in
def fixed (p : Nat × Nat) : Nat × Nat := if p.2 = 0 then (65533, 1) else p
open Go in
theorem dec_rune {l : List Nat} (h : l ≠ []) (hb : ∀ x ∈ l, x < 256) : dec l.length (l.getD 0 0) (l.getD 1 0) (l.getD 2 0) (l.getD 3 0) = fixed (rune l) := by
  have key : ∀ c d e f n : Nat, c < 256 → d < 256 → e < 256 → f < 256 → 1 ≤ n → dec n c d e f = fixed (if c < 128 then (c, 1) else if 194 ≤ c ∧ c < 224 ∧ 1 < n ∧ isC d then (64 * (c - 192) + (d - 128), 2) else if 224 ≤ c ∧ c < 240 ∧ 2 < n ∧ isC d ∧ isC e ∧ ok3 (v3 c d e) then (v3 c d e, 3)
      else if 240 ≤ c ∧ c < 245 ∧ 3 < n ∧ isC d ∧ isC e ∧ isC f ∧ ok4 (v4 c d e f) then (v4 c d e f, 4) else (0, 0)) := by
    intro c d e f n hc hd he hf hn
    unfold dec
    by_cases h1 : c < 128
    · rw [if_pos h1, if_pos h1]; rfl
    rw [if_neg h1, if_neg h1]
    by_cases h2 : 194 ≤ c ∧ c < 224 ∧ 1 < n ∧ isC d
    · rw [if_pos h2]
      unfold isC at h2
      rw [if_pos (by omega), if_pos (by omega)]
      rw [show c % 32 * 64 + d % 64 = 64 * (c - 192) + (d - 128) by omega]; rfl
    rw [if_neg h2]
    by_cases h2' : c / 32 = 6 ∧ 1 < n ∧ d / 64 = 2
    · rw [if_pos h2', if_neg (by unfold isC at h2; omega), if_neg (by unfold isC at *; omega), if_neg (by unfold isC at *; omega)]; rfl
    rw [if_neg h2']
    by_cases h3 : 224 ≤ c ∧ c < 240 ∧ 2 < n ∧ isC d ∧ isC e ∧ ok3 (v3 c d e)
    · rw [if_pos h3]
      obtain ⟨a1, a2, a3, a4, a5, a6⟩ := h3
      unfold isC at a4 a5
      have ev : c % 16 * 4096 + d % 64 * 64 + e % 64 = v3 c d e := by unfold v3; omega
      have eb : v3 c d e < 65536 := by unfold v3; omega
      rw [if_pos (by omega), ev]
      unfold ok3 at a6
      rw [if_pos (by unfold valid; omega)]; rfl
    rw [if_neg h3]
    by_cases h3' : c / 16 = 14 ∧ (1 < n ∧ d / 64 = 2) ∧ 2 < n ∧ e / 64 = 2
    · have ev : c % 16 * 4096 + d % 64 * 64 + e % 64 = v3 c d e := by unfold v3; omega
      rw [if_pos h3', ev, if_neg, if_neg (by unfold isC at *; omega)]
      · rfl
      · intro hh
        apply h3
        refine ⟨by omega, by omega, by omega, by unfold isC; omega, by unfold isC; omega, ?_⟩
        have := hh.2
        unfold valid at this
        unfold ok3
        omega
    rw [if_neg h3']
    by_cases h4 : 240 ≤ c ∧ c < 245 ∧ 3 < n ∧ isC d ∧ isC e ∧ isC f ∧ ok4 (v4 c d e f)
    · rw [if_pos h4]
      obtain ⟨a1, a2, a3, a4, a5, a6, a7⟩ := h4
      unfold isC at a4 a5 a6
      have ev : c % 8 * 262144 + d % 64 * 4096 + e % 64 * 64 + f % 64 = v4 c d e f := by unfold v4; omega
      rw [if_pos (by omega), ev]
      unfold ok4 at a7
      rw [if_pos (by unfold valid; omega)]; rfl
    rw [if_neg h4]
    by_cases h4' : c / 8 = 30 ∧ (1 < n ∧ d / 64 = 2) ∧ (2 < n ∧ e / 64 = 2) ∧ 3 < n ∧ f / 64 = 2
    · have ev : c % 8 * 262144 + d % 64 * 4096 + e % 64 * 64 + f % 64 = v4 c d e f := by unfold v4; omega
      rw [if_pos h4', ev, if_neg]
      · rfl
      · intro hh
        apply h4
        have h5 : c < 245 := by
          have := hh.2
          unfold valid v4 at this
          omega
        refine ⟨by omega, h5, by omega, by unfold isC; omega, by unfold isC; omega, by unfold isC; omega, ?_⟩
        have := hh.2
        unfold valid at this
        unfold ok4
        omega
    rw [if_neg h4']; rfl
  match l, h with
  | [c], _ =>
    have hc := hb c (by simp)
    rw [show ([c] : List Nat).getD 0 0 = c from rfl, show ([c] : List Nat).getD 1 0 = 0 from rfl, show ([c] : List Nat).getD 2 0 = 0 from rfl, show ([c] : List Nat).getD 3 0 = 0 from rfl, key c 0 0 0 _ hc (by omega) (by omega) (by omega) (by simp)]
    congr 1
    simp only [rune, List.length_cons, List.length_nil]
    by_cases h1 : c < 128
    · rw [if_pos h1, if_pos h1]
    · rw [if_neg h1, if_neg h1, if_neg (by omega), if_neg (by omega), if_neg (by omega)]
  | [c, d], _ =>
    have hc := hb c (by simp)
    have hd := hb d (by simp)
    rw [show ([c, d] : List Nat).getD 0 0 = c from rfl, show ([c, d] : List Nat).getD 1 0 = d from rfl, show ([c, d] : List Nat).getD 2 0 = 0 from rfl, show ([c, d] : List Nat).getD 3 0 = 0 from rfl, key c d 0 0 _ hc hd (by omega) (by omega) (by simp)]
    congr 1
    simp only [rune, List.length_cons, List.length_nil]
    by_cases h1 : c < 128
    · rw [if_pos h1, if_pos h1]
    rw [if_neg h1, if_neg h1]
    by_cases h2 : 194 ≤ c ∧ c < 224 ∧ isC d
    · rw [if_pos h2, if_pos ⟨h2.1, h2.2.1, by omega, h2.2.2⟩]
    · rw [if_neg h2, if_neg (fun hh => h2 ⟨hh.1, hh.2.1, hh.2.2.2⟩), if_neg (by omega), if_neg (by omega)]
  | [c, d, e], _ =>
    have hc := hb c (by simp)
    have hd := hb d (by simp)
    have he := hb e (by simp)
    rw [show ([c, d, e] : List Nat).getD 0 0 = c from rfl, show ([c, d, e] : List Nat).getD 1 0 = d from rfl, show ([c, d, e] : List Nat).getD 2 0 = e from rfl, show ([c, d, e] : List Nat).getD 3 0 = 0 from rfl, key c d e 0 _ hc hd he (by omega) (by simp)]
    congr 1
    simp only [rune, List.length_cons, List.length_nil]
    by_cases h1 : c < 128
    · rw [if_pos h1, if_pos h1]
    rw [if_neg h1, if_neg h1]
    by_cases h2 : 194 ≤ c ∧ c < 224 ∧ isC d
    · rw [if_pos h2, if_pos ⟨h2.1, h2.2.1, by omega, h2.2.2⟩]
    rw [if_neg h2, if_neg (fun hh => h2 ⟨hh.1, hh.2.1, hh.2.2.2⟩)]
    by_cases h3 : 224 ≤ c ∧ c < 240 ∧ isC d ∧ isC e ∧ ok3 (v3 c d e)
    · rw [if_pos h3, if_pos ⟨h3.1, h3.2.1, by omega, h3.2.2⟩]
    · rw [if_neg h3, if_neg (fun hh => h3 ⟨hh.1, hh.2.1, hh.2.2.2⟩), if_neg (by omega)]
  | c :: d :: e :: f :: r, _ =>
    have hc := hb c (by simp)
    have hd := hb d (by simp)
    have he := hb e (by simp)
    have hf := hb f (by simp)
    have hn : 3 < (c :: d :: e :: f :: r).length := by simp
    rw [show (c :: d :: e :: f :: r).getD 0 0 = c from rfl, show (c :: d :: e :: f :: r).getD 1 0 = d from rfl, show (c :: d :: e :: f :: r).getD 2 0 = e from rfl, show (c :: d :: e :: f :: r).getD 3 0 = f from rfl, key c d e f _ hc hd he hf (by omega)]
    congr 1
    generalize (c :: d :: e :: f :: r).length = n at *
    simp only [rune]
    by_cases h1 : c < 128
    · rw [if_pos h1, if_pos h1]
    rw [if_neg h1, if_neg h1]
    by_cases h2 : 194 ≤ c ∧ c < 224 ∧ isC d
    · rw [if_pos h2, if_pos ⟨h2.1, h2.2.1, by omega, h2.2.2⟩]
    rw [if_neg h2, if_neg (fun hh => h2 ⟨hh.1, hh.2.1, hh.2.2.2⟩)]
    by_cases h3 : 224 ≤ c ∧ c < 240 ∧ isC d ∧ isC e ∧ ok3 (v3 c d e)
    · rw [if_pos h3, if_pos ⟨h3.1, h3.2.1, by omega, h3.2.2⟩]
    rw [if_neg h3, if_neg (fun hh => h3 ⟨hh.1, hh.2.1, hh.2.2.2⟩)]
    by_cases h4 : 240 ≤ c ∧ c < 245 ∧ isC d ∧ isC e ∧ isC f ∧ ok4 (v4 c d e f)
    · rw [if_pos h4, if_pos ⟨h4.1, h4.2.1, hn, h4.2.2⟩]
    · rw [if_neg h4, if_neg (fun hh => h4 ⟨hh.1, hh.2.1, hh.2.2.2⟩)]
open Go in
theorem drop_getD (l : List Nat) (i k : Nat) : (l.drop i).getD k 0 = l.getD (i + k) 0 := by simp [List.getD]
open Go in
theorem valid_eq (v : Nat) : Utf8.valid (v : Int) = decide (valid v) := by
  by_cases h : valid v
  · rw [decide_eq_true h]
    unfold valid at h
    unfold Utf8.valid
    rw [Bool.or_eq_true, Bool.and_eq_true, Bool.and_eq_true, decide_eq_true_eq, decide_eq_true_eq, decide_eq_true_eq, decide_eq_true_eq]
    omega
  · rw [decide_eq_false h]
    unfold valid at h
    rw [Bool.eq_false_iff]
    unfold Utf8.valid
    intro hh
    rw [Bool.or_eq_true, Bool.and_eq_true, Bool.and_eq_true, decide_eq_true_eq, decide_eq_true_eq, decide_eq_true_eq, decide_eq_true_eq] at hh
    omega
open Go in
theorem decode_eq (s : ByteArray) (i : Nat) (h : i < s.size) : Utf8.decode s i = fixed (rune ((bs s).drop i)) := by
  have hl : ((bs s).drop i).length = s.size - i := by rw [List.length_drop, bs_len]
  have hne : (bs s).drop i ≠ [] := fun e => by rw [e] at hl; simp at hl; omega
  rw [← dec_rune hne (fun x hx => bs_byte s x (List.mem_of_mem_drop hx)), hl]
  simp only [drop_getD]
  have e0 : (s.get! (i + 0)).toNat = (bs s).getD (i + 0) 0 := bs_get (by omega)
  have hk : ∀ k, i + k < s.size → (s.get! (i + k)).toNat = (bs s).getD (i + k) 0 := fun k h => bs_get h
  unfold Utf8.decode dec
  simp only [e0, valid_eq]
  generalize (bs s).getD (i + 0) 0 = c
  by_cases h1 : i + 1 < s.size
  · rw [hk 1 h1]
    by_cases h2 : i + 2 < s.size
    · rw [hk 2 h2]
      by_cases h3 : i + 3 < s.size
      · rw [hk 3 h3]
        generalize (bs s).getD (i + 1) 0 = d
        generalize (bs s).getD (i + 2) 0 = e
        generalize (bs s).getD (i + 3) 0 = f
        have q1 : 1 < s.size - i := by omega
        have q2 : 2 < s.size - i := by omega
        have q3 : 3 < s.size - i := by omega
        simp [h1, h2, h3, q1, q2, q3, Utf8.runeError, and_assoc]
      · have q1 : 1 < s.size - i := by omega
        have q2 : 2 < s.size - i := by omega
        have q3 : ¬ 3 < s.size - i := by omega
        generalize (bs s).getD (i + 1) 0 = d
        generalize (bs s).getD (i + 2) 0 = e
        simp [h1, h2, h3, q1, q2, q3, Utf8.runeError, and_assoc]
    · have h3 : ¬ i + 3 < s.size := by omega
      have q1 : 1 < s.size - i := by omega
      have q2 : ¬ 2 < s.size - i := by omega
      have q3 : ¬ 3 < s.size - i := by omega
      generalize (bs s).getD (i + 1) 0 = d
      simp [h1, h2, h3, q1, q2, q3, Utf8.runeError]
  · have h2 : ¬ i + 2 < s.size := by omega
    have h3 : ¬ i + 3 < s.size := by omega
    have q1 : ¬ 1 < s.size - i := by omega
    have q2 : ¬ 2 < s.size - i := by omega
    have q3 : ¬ 3 < s.size - i := by omega
    simp [h1, h2, h3, q1, q2, q3, Utf8.runeError]
end Qm
namespace Tg
open Qm in
def str (l : List Nat) : ByteArray := ⟨(l.map UInt8.ofNat).toArray⟩
open Qm in
theorem str_bs (s : ByteArray) : str (bs s) = s := by
  apply ByteArray.ext
  apply Array.ext'
  unfold str bs
  simp only [List.map_map]
  conv => rhs; rw [← List.map_id s.data.toList]
  apply List.map_congr_left
  intro x hx
  simp
open Qm in
theorem fixed_piece (l : List Nat) : (fixed (rune l)).2 = (piece l).2 := by
  unfold fixed piece
  split <;> rfl
open Qm in
theorem extract_three (t : ByteArray) : (t.extract 0 3 = ⟨#[239, 191, 189]⟩) ↔ (bs t).take 3 = [239, 191, 189] := by
  have e : bs (t.extract 0 3) = (bs t).take 3 := by
    unfold bs
    rw [ByteArray.data_extract, Array.toList_extract, List.extract_eq_take_drop, List.map_take, List.drop_zero]
  rw [← e]
  constructor
  · intro h; rw [h]; decide
  · intro h; rw [← str_bs (t.extract 0 3), h]; decide
open Qm in
theorem beq_no {a b : ByteArray} (h : a ≠ b) : (a.toList == b.toList) = false := by
  rw [ByteArray.toList_eq, ByteArray.toList_eq, beq_eq_false_iff_ne]
  exact fun e => h (Go.WideShapes.bytes_inj e)
open Qm in
set_option maxRecDepth 100000 in
theorem hp_any (t : ByteArray) (w : World) (ht : t.size ≤ 9223372036854775807) : Calls Tryz.prog 63 #[.string t, .string ⟨#[239, 191, 189]⟩] w fun e w' => e = .returned (.bool (decide ((bs t).take 3 = [239, 191, 189]))) ∧ w' = w := by
  by_cases h : 3 ≤ t.size
  · have h3 : (3 : Int) ≤ t.size := by omega
    by_cases hb : (bs t).take 3 = [239, 191, 189]
    · have he := (extract_three t).2 hb
      rw [decide_eq_true hb]
      clear hb
      go_enter Tryz.func63, Tryz.ntmps63
      go_wp2
      go_ret
      exact ⟨rfl, rfl⟩
    · have he : ((t.extract 0 3).toList == [239, 191, 189]) = false := by
        have := beq_no (b := ⟨#[239, 191, 189]⟩) fun x => hb ((extract_three t).1 x)
        rw [ByteArray.toList_eq ⟨#[239, 191, 189]⟩] at this
        exact this
      rw [decide_eq_false hb]
      clear hb
      go_enter Tryz.func63, Tryz.ntmps63
      go_wp2
      go_ret
      exact ⟨rfl, rfl⟩
  · have h3 : ¬ (3 : Int) ≤ t.size := by omega
    have hb : ¬ (bs t).take 3 = [239, 191, 189] := fun e => by
      have := congrArg List.length e
      rw [List.length_take, bs_len] at this
      simp at this
      omega
    rw [decide_eq_false hb]
    clear hb
    go_enter Tryz.func63, Tryz.ntmps63
    go_wp2
    go_ret
    exact ⟨rfl, rfl⟩
open Qm in
set_option maxRecDepth 100000 in
theorem isrune_any (s : ByteArray) (i : Nat) (w : World) (hs : s.size ≤ 9223372036854775807) (hi : i < s.size) :
    Calls Tryz.prog 38 #[.string s, .int .i64 i, .int .i32 ((fixed (rune ((bs s).drop i))).1 : Nat)] w fun e w' => e = .returned (.bool (decide ((rune ((bs s).drop i)).2 ≠ 0))) ∧ w' = w := by
  have hp := hp_any (s.extract i s.size) w (by simp; omega)
  rw [bs_drop] at hp
  have hi' : (i : Int) ≤ s.size := by omega
  by_cases h0 : (rune ((bs s).drop i)).2 = 0
  · have hn : ¬ ((bs s).drop i).take 3 = [239, 191, 189] := fun e => by
      have h1 := rune_none_take (k := 3) h0
      rw [e] at h1
      exact absurd h1 (by decide)
    have hf : (fixed (rune ((bs s).drop i))).1 = 65533 := by unfold fixed; rw [if_pos h0]
    rw [hf, decide_eq_false (by simpa using h0)]
    rw [decide_eq_false hn] at hp
    clear hf hn h0
    go_enter Tryz.func38, Tryz.ntmps38
    go_wp2_with fail
    refine hp.mono ?_
    rintro e w' ⟨rfl, rfl⟩
    go_wp2_with fail
    go_ret
    exact ⟨rfl, rfl⟩
  · have hf : (fixed (rune ((bs s).drop i))).1 = (rune ((bs s).drop i)).1 := by unfold fixed; rw [if_neg h0]
    rw [hf, decide_eq_true h0]
    by_cases h1 : (rune ((bs s).drop i)).1 = 65533
    · have hn : ((bs s).drop i).take 3 = [239, 191, 189] := by
        obtain ⟨_, r, hr, _⟩ := enc_rune h0
        rw [h1] at hr
        rw [hr]
        rfl
      rw [decide_eq_true hn] at hp
      rw [h1]
      clear hf hn h0 h1
      go_enter Tryz.func38, Tryz.ntmps38
      go_wp2_with fail
      refine hp.mono ?_
      rintro e w' ⟨rfl, rfl⟩
      go_wp2_with fail
      go_ret
      exact ⟨rfl, rfl⟩
    · have hv := (enc_rune h0).1
      generalize (rune ((bs s).drop i)).1 = v at *
      unfold valid at hv
      have h2 : ((v : Int) == 65533) = false := by rw [beq_eq_false_iff_ne]; omega
      have h3 : ¬ (v : Int) = 65533 := by omega
      clear hf h0 h1 hp
      go_enter Tryz.func38, Tryz.ntmps38
      go_wp2_with fail
      go_ret
      exact ⟨rfl, rfl⟩
open Qm in
def renClone : Go.Shelf.Ren := ⟨fun | 316 => 69 | n => n, fun | 37 => 59 | 127 => 127 | n => n, fun n => n⟩
open Qm in
theorem laysClone : Go.Proofs.LaysM.n316 Tryz.prog renClone :=
  { mixed := by kernel_rfl, f316 := by kernel_rfl,
    t0 := by kernel_rfl, a0 := fun _ => by kernel_rfl, z0 := fun _ => by kernel_rfl, v0 := fun _ => by kernel_rfl,
    t3 := by kernel_rfl, a3 := fun _ => by kernel_rfl, z3 := fun _ => by kernel_rfl, v3 := fun _ => by kernel_rfl,
    t4 := by kernel_rfl, a4 := fun _ => by kernel_rfl, z4 := fun _ => by kernel_rfl, v4 := fun _ => by kernel_rfl,
    t5 := by kernel_rfl, a5 := fun _ => by kernel_rfl, z5 := fun _ => by kernel_rfl, v5 := fun _ => by kernel_rfl,
    t9 := by kernel_rfl, a9 := fun _ => by kernel_rfl, z9 := fun _ => by kernel_rfl, v9 := fun _ => by kernel_rfl,
    t37 := by kernel_rfl, a37 := fun _ => by kernel_rfl, z37 := fun _ => by kernel_rfl, v37 := fun _ => by kernel_rfl,
    t127 := by kernel_rfl, a127 := fun _ => by kernel_rfl, z127 := fun _ => by kernel_rfl, v127 := fun _ => by kernel_rfl,
    i0 := by kernel_rfl, i3 := by kernel_rfl, i4 := by kernel_rfl, i5 := by kernel_rfl, i9 := by kernel_rfl, i37 := by kernel_rfl, i127 := by kernel_rfl }
open Qm in
theorem clone_in (s : ByteArray) (w : World) (hlim : s.size ≤ 140737488355328) : Calls Tryz.prog 69 #[.string s] w fun e w' => e = .returned (.string s) ∧ Keep (fun _ => False) w w' :=
  (Any.stringslite_Clone laysClone s w (by omega)).mono fun _ _ ⟨h1, h2⟩ => ⟨h1, Keep.of_below h2⟩
open Qm in
set_option maxRecDepth 100000 in
theorem clone_any (s : ByteArray) (w : World) (hlim : s.size ≤ 140737488355328) : Calls Tryz.prog 57 #[.string s] w fun e w' => e = .returned (.string s) ∧ Keep (fun _ => False) w w' := by
  have hc := clone_in s w hlim
  go_enter Tryz.func57, Tryz.ntmps57
  go_wp2_with fail
  refine hc.mono ?_
  rintro e w' ⟨rfl, hk⟩
  go_wp2_with fail
  go_ret
  exact ⟨rfl, hk⟩
open Qm Km in
theorem high_bytes {l : List Nat} (hne : l ≠ []) (h : ¬ (fixed (rune l)).1 < 128) : ∀ x ∈ l.take (fixed (rune l)).2, 128 ≤ x := by
  rcases rune_cases l with ⟨h0, _⟩ | ⟨c, r, rfl, hc, hr⟩ | ⟨c, d, r, rfl, ⟨h1, h2, h3⟩, hr⟩ | ⟨c, d, e, r, rfl, ⟨h1, h2, h3, h4, h5⟩, hr⟩ | ⟨c, d, e, f, r, rfl, ⟨h1, h2, h3, h4, h5, h6⟩, hr⟩
  · obtain ⟨c, r, rfl⟩ := List.exists_cons_of_ne_nil hne
    have hf : (fixed (rune (c :: r))).2 = 1 := by unfold fixed; rw [if_pos h0]
    rw [hf]
    intro x hx
    simp at hx
    subst hx
    by_cases hc : x < 128
    · rw [rune1 hc] at h0; cases h0
    · omega
  · rw [hr] at h; exact absurd hc h
  all_goals
    have hf : ∀ v n : Nat, n ≠ 0 → fixed (v, n) = (v, n) := fun v n hn => by unfold fixed; rw [if_neg hn]
    rw [hr, hf _ _ (by decide)]
    intro x hx
    simp [isC] at *
    omega
open Qm Km in
theorem fixed_pos (l : List Nat) (hne : l ≠ []) : 1 ≤ (fixed (rune l)).2 ∧ (fixed (rune l)).2 ≤ l.length := by
  rw [fixed_piece]; exact piece_pos hne
open Qm Km in
theorem rune_step {l : List Nat} (hne : l ≠ []) : ((fixed (rune l)).1 < 128 ∧ (fixed (rune l)).2 = 1 ∧ l = (fixed (rune l)).1 :: l.drop 1) ∨ (128 ≤ (fixed (rune l)).1 ∧ ∀ x ∈ l.take (fixed (rune l)).2, 128 ≤ x) := by
  by_cases h : (fixed (rune l)).1 < 128
  · left
    rcases rune_cases l with ⟨h0, _⟩ | ⟨c, r, rfl, hc, hr⟩ | ⟨c, d, r, rfl, ⟨h1, h2, h3⟩, hr⟩ | ⟨c, d, e, r, rfl, ⟨h1, h2, h3, h4, h5⟩, hr⟩ | ⟨c, d, e, f, r, rfl, ⟨h1, h2, h3, h4, h5, h6⟩, hr⟩
    · have : (fixed (rune l)).1 = 65533 := by unfold fixed; rw [if_pos h0]
      omega
    · rw [hr]
      exact ⟨hc, rfl, rfl⟩
    all_goals
      have hf : ∀ v n : Nat, n ≠ 0 → fixed (v, n) = (v, n) := fun v n hn => by unfold fixed; rw [if_neg hn]
      rw [hr, hf _ _ (by decide)] at h
      simp only [isC, ok3, ok4] at *
      omega
  · exact Or.inr ⟨by omega, high_bytes hne h⟩
open Qm Km in
theorem drop_ne {s : ByteArray} {pos : Nat} (h : pos < s.size) : (bs s).drop pos ≠ [] := fun e => by
  have h1 := congrArg List.length e
  rw [List.length_drop, bs_len, List.length_nil] at h1
  omega
open Qm Km in
theorem drop_end {s : ByteArray} {pos : Nat} (h : ¬ pos < s.size) : (bs s).drop pos = [] := by rw [List.drop_eq_nil_iff, bs_len]; omega
open Qm Km in
theorem extract_tail (s : ByteArray) (n : Nat) : s.extract n s.size = str ((bs s).drop n) := by rw [← bs_drop, str_bs]
open Qm Km in
theorem bs_front (t : ByteArray) (n : Nat) : bs (t.extract 0 n) = (bs t).take n := by
  unfold bs
  rw [ByteArray.data_extract, Array.toList_extract, List.extract_eq_take_drop, List.map_take, List.drop_zero, Nat.sub_zero]
open Qm Km in
theorem extract_front (s : ByteArray) (n : Nat) : s.extract 0 n = str ((bs s).take n) := by rw [← bs_front, str_bs]
end Tg
end Go.Proofs.YtjgnajopomadpaaGreat
namespace Go.Proofs.YtjgnajopomadpaaGreat
open Go.ChangeShapes Go.WideShapes Go.ChangeAt Go.RowKit
namespace Tg
open Qm Crc
/-- A program's entry: as a value, and cell by cell. -/
def trA (x : En) : Array Value := #[.string (strOfNums x.nm), .int .i64 x.f, .int .i64 x.n]
def trC (x : En) (j : Nat) : Value := if j = 0 then .string (strOfNums x.nm) else if j = 1 then .int .i64 x.f else .int .i64 x.n
theorem size53 : (Tryz.prog.info? 53).map (·.size) = some 3 := by kernel_rfl
theorem under53 : ∃ d, Tryz.prog.underlying 53 = some d ∧ d.isRow = true := ⟨_, Tryz.underlying53, rfl⟩
theorem store53 {w : World} {g n o : Nat} {F : Nat → Value} (h : Blk w g n F) (ho : o + 3 ≤ n) (x : En) :
    ∃ w', (Instr.storeAt 53 (.pointer (some ⟨g, o, none⟩)) (.agg (trA x))).run Tryz.prog w = .ok () w' ∧ Blk w' g n (fun k => if o ≤ k ∧ k < o + 3 then trC x (k - o) else F k) ∧ Keep (fun k => k = g) w w' := by
  refine ⟨w.setCells g o ((List.range 3).map fun j => trC x j), ?_, h.setCells o 3 (fun j => trC x j) ho, Keep.setCells (S := fun k => k = g) (Keep.refl _ _) (Or.inl rfl) _ _⟩
  have ht : w.there g o (trA x).size := fun j hj => by
    have hj : j < 3 := hj
    exact ⟨by rw [(h (o + j) (by omega)).1]; rfl, (h (o + j) (by omega)).2⟩
  exact run_storeAt_mid w g o 53 (trA x) ht size53 (all_oneCell_toArray (fun v hv => by simp at hv; rcases hv with rfl | rfl | rfl <;> rfl))
theorem load53_at {w : World} {g o : Nat} {v0 v1 v2 : Value} (c0 : w.cell? ⟨g, o, none⟩ = some v0) (c1 : w.cell? ⟨g, o + 1, none⟩ = some v1) (c2 : w.cell? ⟨g, o + 2, none⟩ = some v2) :
    (Instr.loadAt 53 (.pointer (some ⟨g, o, none⟩))).run Tryz.prog w = .ok (.agg #[v0, v1, v2]) w := by
  obtain ⟨t, h1, h2⟩ := under53
  have := run_loadAt_mid (P := Tryz.prog) w g o 53 [v0, v1, v2] t (fun j v hv => by
    have hj : j < 3 := (List.getElem?_eq_some_iff.1 hv).1
    rcases (by omega : j = 0 ∨ j = 1 ∨ j = 2) with rfl | rfl | rfl
    · rw [← hv]; exact c0
    · rw [← hv]; exact c1
    · rw [← hv]; exact c2) h1 h2 (by rw [size53]; rfl)
  simpa using this
theorem load53 {w : World} {g : Nat} {x : En} (h : Blk w g 3 (trC x)) : (Instr.loadAt 53 (.pointer (some ⟨g, 0, none⟩))).run Tryz.prog w = .ok (.agg (trA x)) w :=
  load53_at (h 0 (by omega)).1 (h 1 (by omega)).1 (h 2 (by omega)).1
theorem loadVar53 {w : World} {g : Nat} {x : En} (h : Blk w g 3 (trC x)) : (loadVar 53 ⟨g, 0, none⟩).run Tryz.prog w = .ok (.agg (trA x)) w := by
  obtain ⟨t, h1, h2⟩ := under53
  have := run_loadVar_mid (P := Tryz.prog) w g 0 53 (trA x).toList t (fun j v hv => by
    have hj : j < 3 := by have := (List.getElem?_eq_some_iff.1 hv).1; simpa [trA] using this
    rw [(h (0 + j) (by omega)).1, ← hv]
    rcases (by omega : j = 0 ∨ j = 1 ∨ j = 2) with rfl | rfl | rfl <;> rfl) h1 h2 (by rw [size53]; simp [trA])
  simpa using this
set_option maxRecDepth 100000 in
theorem alloc53 (w : World) : ∃ w', (Instr.alloc 53 true (.tuple #[])).run Tryz.prog w = .ok (.pointer (some ⟨w.heap.size, 0, none⟩)) w' ∧ Blk w' w.heap.size 3 (trC En.z) ∧ Keep (fun _ => False) w w' ∧ w.heap.size < w'.heap.size :=
  ⟨w.alloc (.cells #[.string ⟨#[]⟩, .int .i64 0, .int .i64 0] 53), by go_simp, blk_alloc w _ 53 3 _ (by intro k hk; rcases (by omega : k = 0 ∨ k = 1 ∨ k = 2) with rfl | rfl | rfl <;> rfl), (Keep.refl _ _).alloc _, by simp⟩
/-- A store's entry i: all nought where the place is free. -/
def pe (s : Nat → Option En) (i : Nat) : En := (s i).getD En.z
/-- A store's cells. -/
def stC (p N : Nat) (s : Nat → Option En) (k : Nat) : Value := if k = 0 then dk p else if k = 1 then .int .i64 (N : Int) else trC (pe s ((k - 2) / 3)) ((k - 2) % 3)
def stL (s : Nat → Option En) : List Value := (List.range 8).flatMap (fun i => (trA (pe s i)).toList)
theorem stL_8 (s : Nat → Option En) : stL s = (trA (pe s 0)).toList ++ ((trA (pe s 1)).toList ++ ((trA (pe s 2)).toList ++ ((trA (pe s 3)).toList ++ ((trA (pe s 4)).toList ++ ((trA (pe s 5)).toList ++ ((trA (pe s 6)).toList ++ ((trA (pe s 7)).toList ++ []))))))) := rfl
theorem stL_at (s : Nat → Option En) : ∀ k, k < 24 → (stL s)[k]? = some (trC (pe s (k / 3)) (k % 3)) := by
  intro k hk
  rw [stL_8]
  rcases (by omega : k = 0 ∨ k = 1 ∨ k = 2 ∨ k = 3 ∨ k = 4 ∨ k = 5 ∨ k = 6 ∨ k = 7 ∨ k = 8 ∨ k = 9 ∨ k = 10 ∨ k = 11 ∨ k = 12 ∨ k = 13 ∨ k = 14 ∨ k = 15 ∨ k = 16 ∨ k = 17 ∨ k = 18 ∨ k = 19 ∨ k = 20 ∨ k = 21 ∨ k = 22 ∨ k = 23) with rfl | rfl | rfl | rfl | rfl | rfl | rfl | rfl | rfl | rfl | rfl | rfl | rfl | rfl | rfl | rfl | rfl | rfl | rfl | rfl | rfl | rfl | rfl | rfl <;> rfl
theorem size67 : (Tryz.prog.info? 67).map (·.size) = some 24 := by kernel_rfl
theorem under67 : ∃ d, Tryz.prog.underlying 67 = some d ∧ d.isRow = true := ⟨_, Tryz.underlying67, rfl⟩
/-- All eight entries read at once. -/
theorem load67 {w : World} {q p N : Nat} {s : Nat → Option En} (h : Blk w q 26 (stC p N s)) : (Instr.loadAt 67 (.pointer (some ⟨q, 2, none⟩))).run Tryz.prog w = .ok (.agg (stL s).toArray) w := by
  obtain ⟨t, h1, h2⟩ := under67
  refine run_loadAt_mid (P := Tryz.prog) w q 2 67 (stL s) t (fun j v hv => ?_) h1 h2 (by rw [size67]; rfl)
  have hj : j < 24 := (List.getElem?_eq_some_iff.1 hv).1
  rw [(h (2 + j) (by omega)).1, ← hv, stL_at s j hj]
  unfold stC
  rw [if_neg (by omega), if_neg (by omega), Nat.add_sub_cancel_left]
set_option maxRecDepth 100000 in
theorem index67 (s : Nat → Option En) (i : Nat) (hi : i < 8) (w : World) : (Instr.index 67 (.agg (stL s).toArray) (.int .i64 (i : Int))).run Tryz.prog w = .ok (.agg #[.string (strOfNums (pe s i).nm), .int .i64 (pe s i).f, .int .i64 (pe s i).n]) w := by
  rw [stL_8]
  rcases (by omega : i = 0 ∨ i = 1 ∨ i = 2 ∨ i = 3 ∨ i = 4 ∨ i = 5 ∨ i = 6 ∨ i = 7) with rfl | rfl | rfl | rfl | rfl | rfl | rfl | rfl <;> kernel_rfl
/-- What an entry's cells are at its own place. -/
theorem stC_at {w : World} {q p N : Nat} {s : Nat → Option En} (h : Blk w q 26 (stC p N s)) {i : Nat} (hi : i < 8) :
    w.cell? ⟨q, 2 + i * 3, none⟩ = some (.string (strOfNums (pe s i).nm)) ∧ w.cell? ⟨q, 2 + i * 3 + 1, none⟩ = some (.int .i64 (pe s i).f) ∧ w.cell? ⟨q, 2 + i * 3 + 2, none⟩ = some (.int .i64 (pe s i).n) := by
  have key : ∀ j, j < 3 → w.cell? ⟨q, 2 + i * 3 + j, none⟩ = some (trC (pe s i) j) := fun j hj => by
    rw [(h (2 + i * 3 + j) (by omega)).1]
    unfold stC
    rw [if_neg (by omega), if_neg (by omega), show (2 + i * 3 + j - 2) / 3 = i by omega, show (2 + i * 3 + j - 2) % 3 = j by omega]
  exact ⟨key 0 (by omega), key 1 (by omega), key 2 (by omega)⟩
/-- An entry stored. -/
theorem stC_put {w : World} {q p N : Nat} {s : Nat → Option En} (h : Blk w q 26 (stC p N s)) {i : Nat} (hi : i < 8) (o : Option En) :
    ∃ w', (Instr.storeAt 53 (.pointer (some ⟨q, 2 + i * 3, none⟩)) (.agg (trA (o.getD En.z)))).run Tryz.prog w = .ok () w' ∧ Blk w' q 26 (stC p N (upd s i o)) ∧ Keep (fun k => k = q) w w' := by
  obtain ⟨w', h1, h2, h3⟩ := store53 h (o := 2 + i * 3) (by omega) (o.getD En.z)
  refine ⟨w', h1, h2.congr (fun k hk => ?_), h3⟩
  unfold stC
  split
  · next c =>
    rw [if_neg (by omega), if_neg (by omega), show (k - 2) / 3 = i by omega, show (k - 2) % 3 = k - (2 + i * 3) by omega]
    unfold pe upd
    rw [if_pos rfl]
  · next c =>
    by_cases c0 : k = 0
    · rw [if_pos c0, if_pos c0]
    · by_cases c1 : k = 1
      · rw [if_neg c0, if_pos c1, if_neg c0, if_pos c1]
      · rw [if_neg c0, if_neg c1, if_neg c0, if_neg c1]
        unfold pe upd
        rw [if_neg (by omega)]
end Tg
end Go.Proofs.YtjgnajopomadpaaGreat
namespace Go.Proofs.YtjgnajopomadpaaGreat
open Go.ChangeShapes Go.WideShapes Go.ChangeAt Go.RowKit
namespace Tg
open Qm Crc
/-- A store's struct. -/
structure Vst (w : World) (q p N : Nat) (s : Nat → Option En) : Prop where
  blk : Blk w q 26 (stC p N s)
  N9 : 9 ≤ N ∧ N ≤ 512
  ok : ∀ i e, i < 8 → s i = some e → e.Ok N
theorem Vst.keep {S : Nat → Prop} {w w' : World} {q p N : Nat} {s : Nat → Option En} (h : Vst w q p N s) (k : Keep S w w') (hS : ¬ S q) : Vst w' q p N s := ⟨h.blk.keep k hS, h.N9, h.ok⟩
theorem pe_some {s : Nat → Option En} {i : Nat} {e : En} (h : s i = some e) : pe s i = e := by unfold pe; rw [h]; rfl
theorem pe_none {s : Nat → Option En} {i : Nat} (h : s i = none) : pe s i = En.z := by unfold pe; rw [h]; rfl
theorem Vst.bd {w : World} {q p N : Nat} {s : Nat → Option En} (h : Vst w q p N s) {i : Nat} (hi : i < 8) : 0 ≤ (pe s i).f ∧ (pe s i).f ≤ 512 ∧ 0 ≤ (pe s i).n ∧ (pe s i).n ≤ 512 ∧ (0 < (pe s i).n ↔ (s i).isSome = true) := by
  have hN := h.N9
  cases hs : s i with
  | none => rw [pe_none hs]; decide
  | some e =>
    rw [pe_some hs]
    have h1 := h.ok i e hi hs
    have f := h1.f
    have n := h1.n
    have fn := h1.fn
    refine ⟨by omega, by omega, by omega, by omega, ?_⟩
    simp; omega
theorem feF_go (ts : Nat → Bool) {i : Nat} (h : i < 8) : feF ts (8 - i) = if ts i then feF ts (8 - (i + 1)) else (i : Int) := by
  obtain ⟨k, hk⟩ : ∃ k, 8 - i = k + 1 := ⟨7 - i, by omega⟩
  rw [hk, show 8 - (i + 1) = k by omega]
  show (if ts (7 - k) then feF ts k else ((7 - k : Nat) : Int)) = _
  rw [show 7 - k = i by omega]
/-- Has the volume at place i that name? -/
def hitB (s : Nat → Option En) (nm : ByteArray) (i : Nat) : Bool := decide (0 < (pe s i).n) && decide (strOfNums (pe s i).nm = nm)
/-- Has it one of these sectors? -/
def metB (s : Nat → Option En) (f n : Int) (i : Nat) : Bool := decide (0 < (pe s i).n) && (decide ((pe s i).f < f + n) && decide (f < (pe s i).f + (pe s i).n))
set_option maxRecDepth 100000 in
set_option maxHeartbeats 1000000 in
theorem find_any {w : World} {q p N : Nat} {s : Nat → Option En} (h : Vst w q p N s) (nm : ByteArray) :
    Calls Tryz.prog 33 #[Ptr q, .string nm] w fun e w' => e = .returned (.int .i64 (feF (fun i => !hitB s nm i) 8)) ∧ Keep (fun _ => False) w w' := by
  obtain ⟨F, hF⟩ : ∃ F, RowKit.Hid (F = feF (fun i => !hitB s nm i) 8) := ⟨_, rfl⟩
  rw [← hF.out]
  have hld := load67 h.blk
  have hix := index67 s
  have hbd : RowKit.Hid (∀ i : Nat, i < 8 → 0 ≤ (pe s i).f ∧ (pe s i).f ≤ 512 ∧ 0 ≤ (pe s i).n ∧ (pe s i).n ≤ 512 ∧ (0 < (pe s i).n ↔ (s i).isSome = true)) := fun i hi => h.bd hi
  generalize (stL s).toArray = A at *
  clear h
  go_enter Tryz.func33, Tryz.ntmps33
  go_wp2_with (guard_target =~ wpList _ _ _ (Oper.mk _ (Op.load 67 _) _ _ _ _ :: _) _ _; refine wpList_load_run (by rfl) 67 (.tmp 9) rfl (by rfl) hld ?_)
  replace hix : RowKit.Hid (∀ i : Nat, i < 8 → ∀ w, (Instr.index 67 (.agg A) (.int .i64 (i : Int))).run Tryz.prog w = .ok (.agg #[.string (strOfNums (pe s i).nm), .int .i64 (pe s i).f, .int .i64 (pe s i).n]) w) := hix
  clear hld
  go_loopw [11] (fun v wx => ∃ i : Nat, v = .int .i64 (i : Int) ∧ RowKit.Hid (i ≤ 8 ∧ F = feF (fun i => !hitB s nm i) (8 - i)) ∧ RowKit.Hid (Keep (fun _ => False) w wx)) (fun v _ => 8 - (intOf v).toNat)
  case atStart => exact ⟨0, rfl, ⟨by omega, hF.out⟩, Keep.refl _ _⟩
  case round =>
    clear hF
    obtain ⟨i, rfl, hi, hK⟩ := hrel
    by_cases hin : i = 8
    · have hFF : RowKit.Hid (F = -1) := by
        show F = -1
        rw [hi.out.2, hin]
        rfl
      have hge : ¬ (i : Int) < 8 := by omega
      clear hi hin hbd hix
      go_wp2_with fail
      go_ret
      exact ⟨by rw [hFF.out]; rfl, hK⟩
    · have hlt : (i : Int) < 8 := by have := hi.out.1; omega
      have hi8 : i < 8 := by have := hi.out.1; omega
      have hb := hbd.out i hi8
      have hx := hix.out i hi8
      have hst := feF_go (fun i => !hitB s nm i) hi8
      have hw : IntKind.i64.wrap ((i : Int) + 1) = ((i + 1 : Nat) : Int) := by rw [show (i : Int) + 1 = ((i + 1 : Nat) : Int) by omega]; exact wrapI (by omega) (by omega)
      have hh : RowKit.Hid (hitB s nm i = (decide (0 < (pe s i).n) && decide (strOfNums (pe s i).nm = nm))) := rfl
      generalize strOfNums (pe s i).nm = xs at *
      generalize (pe s i).f = f at *
      generalize (pe s i).n = n at *
      have hst : RowKit.Hid (F = if !hitB s nm i then feF (fun i => !hitB s nm i) (8 - (i + 1)) else (i : Int)) := by show F = _; rw [hi.out.2, hst]
      have hw1 : RowKit.Hid (Keep (fun _ => False) w (wr.alloc (.cells #[.string xs, .int .i64 f, .int .i64 n] 53))) := hK.out.alloc _
      have hcmp := ba_eq xs nm
      have hnx : RowKit.Hid (i + 1 ≤ 8) := by show i + 1 ≤ 8; omega
      clear hbd hix hin hK hb
      go_upto_region 4 with fail
      by_cases cn : 0 < n
      · have dn : (0 < n) = True := eq_true cn
        by_cases cx : xs = nm
        · have qx : (xs.toList == nm.toList) = true := by rw [hcmp, decide_eq_true cx]
          have hFF : RowKit.Hid (F = i) := by show F = i; rw [hst.out, hh.out, decide_eq_true cn, decide_eq_true cx]; rfl
          clear hst hh hi cx hcmp hx
          go_wp2_with fail
          go_ret
          exact ⟨by rw [hFF.out]; rfl, hw1.out⟩
        · have qx : (xs.toList == nm.toList) = false := by rw [hcmp, decide_eq_false cx]
          have hFF : RowKit.Hid (F = feF (fun i => !hitB s nm i) (8 - (i + 1))) := by show F = _; rw [hst.out, hh.out, decide_eq_false cx]; simp
          clear hst hh hi cx hcmp hx
          go_wp2_with fail
          go_roundw
          case rel => exact ⟨i + 1, rfl, ⟨hnx.out, hFF.out⟩, hw1⟩
          case measure => simp [intOf]; omega
      · have hFF : RowKit.Hid (F = feF (fun i => !hitB s nm i) (8 - (i + 1))) := by show F = _; rw [hst.out, hh.out, decide_eq_false cn]; simp
        clear hst hh hi hcmp hx
        go_wp2_with fail
        go_roundw
        case rel => exact ⟨i + 1, rfl, ⟨hnx.out, hFF.out⟩, hw1⟩
        case measure => simp [intOf]; omega
set_option maxRecDepth 100000 in
set_option maxHeartbeats 1000000 in
theorem meet_any {w : World} {q p N : Nat} {s : Nat → Option En} (h : Vst w q p N s) (f0 n0 : Int) (hf0 : 0 ≤ f0 ∧ f0 ≤ 1000000) (hn0 : 0 ≤ n0 ∧ n0 ≤ 1000000) :
    Calls Tryz.prog 60 #[Ptr q, .int .i64 f0, .int .i64 n0] w fun e w' => e = .returned (.int .i64 (feF (fun i => !metB s f0 n0 i) 8)) ∧ Keep (fun _ => False) w w' := by
  obtain ⟨F, hF⟩ : ∃ F, RowKit.Hid (F = feF (fun i => !metB s f0 n0 i) 8) := ⟨_, rfl⟩
  rw [← hF.out]
  have hld := load67 h.blk
  have hix := index67 s
  have hbd : RowKit.Hid (∀ i : Nat, i < 8 → 0 ≤ (pe s i).f ∧ (pe s i).f ≤ 512 ∧ 0 ≤ (pe s i).n ∧ (pe s i).n ≤ 512 ∧ (0 < (pe s i).n ↔ (s i).isSome = true)) := fun i hi => h.bd hi
  generalize (stL s).toArray = A at *
  clear h
  have hw0 := wrapI (x := f0 + n0) (by omega) (by omega)
  go_enter Tryz.func60, Tryz.ntmps60
  go_wp2_with (guard_target =~ wpList _ _ _ (Oper.mk _ (Op.load 67 _) _ _ _ _ :: _) _ _; refine wpList_load_run (by rfl) 67 (.tmp 11) rfl (by rfl) hld ?_)
  replace hix : RowKit.Hid (∀ i : Nat, i < 8 → ∀ w, (Instr.index 67 (.agg A) (.int .i64 (i : Int))).run Tryz.prog w = .ok (.agg #[.string (strOfNums (pe s i).nm), .int .i64 (pe s i).f, .int .i64 (pe s i).n]) w) := hix
  clear hld
  go_loopw [13] (fun v wx => ∃ i : Nat, v = .int .i64 (i : Int) ∧ RowKit.Hid (i ≤ 8 ∧ F = feF (fun i => !metB s f0 n0 i) (8 - i)) ∧ RowKit.Hid (Keep (fun _ => False) w wx)) (fun v _ => 8 - (intOf v).toNat)
  case atStart => exact ⟨0, rfl, ⟨by omega, hF.out⟩, Keep.refl _ _⟩
  case round =>
    clear hF
    obtain ⟨i, rfl, hi, hK⟩ := hrel
    by_cases hin : i = 8
    · have hFF : RowKit.Hid (F = -1) := by
        show F = -1
        rw [hi.out.2, hin]
        rfl
      have hge : ¬ (i : Int) < 8 := by omega
      clear hi hin hbd hix
      go_wp2_with fail
      go_ret
      exact ⟨by rw [hFF.out]; rfl, hK⟩
    · have hlt : (i : Int) < 8 := by have := hi.out.1; omega
      have hi8 : i < 8 := by have := hi.out.1; omega
      have hb := hbd.out i hi8
      have hx := hix.out i hi8
      have hst := feF_go (fun i => !metB s f0 n0 i) hi8
      have hw : IntKind.i64.wrap ((i : Int) + 1) = ((i + 1 : Nat) : Int) := by rw [show (i : Int) + 1 = ((i + 1 : Nat) : Int) by omega]; exact wrapI (by omega) (by omega)
      have hh : RowKit.Hid (metB s f0 n0 i = (decide (0 < (pe s i).n) && (decide ((pe s i).f < f0 + n0) && decide (f0 < (pe s i).f + (pe s i).n)))) := rfl
      generalize strOfNums (pe s i).nm = xs at *
      generalize (pe s i).f = f at *
      generalize (pe s i).n = n at *
      have hst : RowKit.Hid (F = if !metB s f0 n0 i then feF (fun i => !metB s f0 n0 i) (8 - (i + 1)) else (i : Int)) := by show F = _; rw [hi.out.2, hst]
      have hw1 : RowKit.Hid (Keep (fun _ => False) w (wr.alloc (.cells #[.string xs, .int .i64 f, .int .i64 n] 53))) := hK.out.alloc _
      have hw2 := wrapI (x := f + n) (by omega) (by omega)
      have hnx : RowKit.Hid (i + 1 ≤ 8) := by show i + 1 ≤ 8; omega
      clear hbd hix hin hK hb
      go_upto_region 4 with fail
      by_cases cn : 0 < n
      · have dn : (0 < n) = True := eq_true cn
        by_cases c1 : f < f0 + n0
        · by_cases c2 : f0 < f + n
          · have hFF : RowKit.Hid (F = i) := by show F = i; rw [hst.out, hh.out, decide_eq_true cn, decide_eq_true c1, decide_eq_true c2]; rfl
            clear hst hh hi hx
            go_wp2_with fail
            go_ret
            exact ⟨by rw [hFF.out]; rfl, hw1.out⟩
          · have hFF : RowKit.Hid (F = feF (fun i => !metB s f0 n0 i) (8 - (i + 1))) := by show F = _; rw [hst.out, hh.out, decide_eq_false c2]; simp
            clear hst hh hi hx
            go_wp2_with fail
            go_roundw
            case rel => exact ⟨i + 1, rfl, ⟨hnx.out, hFF.out⟩, hw1⟩
            case measure => simp [intOf]; omega
        · have hFF : RowKit.Hid (F = feF (fun i => !metB s f0 n0 i) (8 - (i + 1))) := by show F = _; rw [hst.out, hh.out, decide_eq_false c1]; simp
          clear hst hh hi hx
          go_wp2_with fail
          go_roundw
          case rel => exact ⟨i + 1, rfl, ⟨hnx.out, hFF.out⟩, hw1⟩
          case measure => simp [intOf]; omega
      · have hFF : RowKit.Hid (F = feF (fun i => !metB s f0 n0 i) (8 - (i + 1))) := by show F = _; rw [hst.out, hh.out, decide_eq_false cn]; simp
        clear hst hh hi hx
        go_wp2_with fail
        go_roundw
        case rel => exact ⟨i + 1, rfl, ⟨hnx.out, hFF.out⟩, hw1⟩
        case measure => simp [intOf]; omega
set_option maxRecDepth 100000 in
set_option maxHeartbeats 1000000 in
theorem fentry_any {w : World} {q p N : Nat} {s : Nat → Option En} (h : Vst w q p N s) :
    Calls Tryz.prog 61 #[Ptr q] w fun e w' => e = .returned (.int .i64 (feF (fun i => (s i).isSome) 8)) ∧ Keep (fun _ => False) w w' := by
  obtain ⟨F, hF⟩ : ∃ F, RowKit.Hid (F = feF (fun i => (s i).isSome) 8) := ⟨_, rfl⟩
  rw [← hF.out]
  have hld := load67 h.blk
  have hix := index67 s
  have hbd : RowKit.Hid (∀ i : Nat, i < 8 → 0 ≤ (pe s i).f ∧ (pe s i).f ≤ 512 ∧ 0 ≤ (pe s i).n ∧ (pe s i).n ≤ 512 ∧ (0 < (pe s i).n ↔ (s i).isSome = true)) := fun i hi => h.bd hi
  generalize (stL s).toArray = A at *
  clear h
  go_enter Tryz.func61, Tryz.ntmps61
  go_wp2_with (guard_target =~ wpList _ _ _ (Oper.mk _ (Op.load 67 _) _ _ _ _ :: _) _ _; refine wpList_load_run (by rfl) 67 (.tmp 7) rfl (by rfl) hld ?_)
  replace hix : RowKit.Hid (∀ i : Nat, i < 8 → ∀ w, (Instr.index 67 (.agg A) (.int .i64 (i : Int))).run Tryz.prog w = .ok (.agg #[.string (strOfNums (pe s i).nm), .int .i64 (pe s i).f, .int .i64 (pe s i).n]) w) := hix
  clear hld
  go_loopw [9] (fun v wx => ∃ i : Nat, v = .int .i64 (i : Int) ∧ RowKit.Hid (i ≤ 8 ∧ F = feF (fun i => (s i).isSome) (8 - i)) ∧ RowKit.Hid (Keep (fun _ => False) w wx)) (fun v _ => 8 - (intOf v).toNat)
  case atStart => exact ⟨0, rfl, ⟨by omega, hF.out⟩, Keep.refl _ _⟩
  case round =>
    clear hF
    obtain ⟨i, rfl, hi, hK⟩ := hrel
    by_cases hin : i = 8
    · have hFF : RowKit.Hid (F = -1) := by
        show F = -1
        rw [hi.out.2, hin]
        rfl
      have hge : ¬ (i : Int) < 8 := by omega
      clear hi hin hbd hix
      go_wp2_with fail
      go_ret
      exact ⟨by rw [hFF.out]; rfl, hK⟩
    · have hlt : (i : Int) < 8 := by have := hi.out.1; omega
      have hi8 : i < 8 := by have := hi.out.1; omega
      have hb := hbd.out i hi8
      have hx := hix.out i hi8
      have hst := feF_go (fun i => (s i).isSome) hi8
      have hw : IntKind.i64.wrap ((i : Int) + 1) = ((i + 1 : Nat) : Int) := by rw [show (i : Int) + 1 = ((i + 1 : Nat) : Int) by omega]; exact wrapI (by omega) (by omega)
      have hh : RowKit.Hid ((s i).isSome = decide (0 < (pe s i).n)) := by show _ = _; cases hs : (s i).isSome with | true => rw [decide_eq_true (hb.2.2.2.2.2 hs)] | false => rw [decide_eq_false (fun c => by have := hb.2.2.2.2.1 c; rw [hs] at this; cases this)]
      generalize strOfNums (pe s i).nm = xs at *
      generalize (pe s i).f = f at *
      generalize (pe s i).n = n at *
      have hst : RowKit.Hid (F = if (s i).isSome then feF (fun i => (s i).isSome) (8 - (i + 1)) else (i : Int)) := by show F = _; rw [hi.out.2, hst]
      have hw1 : RowKit.Hid (Keep (fun _ => False) w (wr.alloc (.cells #[.string xs, .int .i64 f, .int .i64 n] 53))) := hK.out.alloc _
      have hn0 := hb.2.2.1
      have hnx : RowKit.Hid (i + 1 ≤ 8) := by show i + 1 ≤ 8; omega
      clear hbd hix hin hK hb
      go_upto_region 4 with fail
      by_cases cn : 0 < n
      · have hFF : RowKit.Hid (F = feF (fun i => (s i).isSome) (8 - (i + 1))) := by show F = _; rw [hst.out, hh.out, decide_eq_true cn]; simp
        clear hst hh hi hx
        have c0 : ¬ n = 0 := by omega
        have c1 : (n == 0) = false := by rw [beq_eq_false_iff_ne]; exact c0
        go_wp2_with fail
        go_roundw
        case rel => exact ⟨i + 1, rfl, ⟨hnx.out, hFF.out⟩, hw1⟩
        case measure => simp [intOf]; omega
      · have hFF : RowKit.Hid (F = i) := by show F = i; rw [hst.out, hh.out, decide_eq_false cn]; rfl
        clear hst hh hi hx
        have c0 : n = 0 := by omega
        subst c0
        go_wp2_with fail
        go_ret
        exact ⟨by rw [hFF.out]; rfl, hw1.out⟩
end Tg
end Go.Proofs.YtjgnajopomadpaaGreat
namespace Go.Proofs.YtjgnajopomadpaaGreat
open Go.ChangeShapes Go.WideShapes Go.ChangeAt Go.RowKit
namespace Tg
open Qm Crc
set_option maxRecDepth 100000 in
set_option maxHeartbeats 2000000 in
theorem good_any (s : ByteArray) (hs : s.size ≤ 9223372036854775807) (w : World) : Calls Tryz.prog 15 #[.string s] w fun e w' => e = .returned (.bool (goodS (bs s))) ∧ Keep (fun _ => False) w w' := by
  by_cases h0 : s.size = 0
  · have e0 : s = ⟨#[]⟩ := ByteArray.ext (Array.eq_empty_of_size_eq_zero h0)
    subst e0
    have hg : goodS (bs ⟨#[]⟩) = false := by decide
    rw [hg]
    clear hs h0 hg
    go_enter Tryz.func15, Tryz.ntmps15
    go_wp2_with fail
    go_ret
    exact ⟨rfl, Keep.refl _ _⟩
  · have q0 : (s.toList == []) = false := by
      rw [ByteArray.toList_eq, beq_eq_false_iff_ne]
      intro e
      have := congrArg List.length e
      rw [Array.length_toList] at this
      exact h0 this
    by_cases h16 : s.size ≤ 16
    · have h16' : (s.size : Int) ≤ 16 := by omega
      have h16n : ¬ (16 : Int) < s.size := by omega
      obtain ⟨G, hG⟩ : ∃ G, RowKit.Hid (G = goodS (bs s)) := ⟨_, rfl⟩
      rw [← hG.out]
      have hG2 : RowKit.Hid (G = gd (bs s)) := by
        show G = _
        rw [hG.out]
        unfold goodS
        rw [bs_len, decide_eq_true (by omega : 1 ≤ s.size), decide_eq_true h16]
        simp
      have hz : RowKit.Hid (s.size ≤ 16) := h16
      clear hG h0
      go_enter Tryz.func15, Tryz.ntmps15
      go_wp2_with fail
      go_loopw [] (fun wr => ∃ pos : Nat, wr = w.iter s pos ∧ RowKit.Hid (G = gd ((bs s).drop pos))) (fun wr => s.size - wr.iterPos w.heap.size)
      case atStart => exact ⟨0, rfl, by show G = _; rw [hG2.out]; simp⟩
      case round =>
        clear hG2
        obtain ⟨pos, rfl, h1⟩ := hrel
        by_cases hp : pos < s.size
        · have hnx : ∀ ty, (Instr.next (.pointer (some ⟨w.heap.size, 0, none⟩)) true ty).run Tryz.prog (w.iter s pos) = _ := fun ty => run_next_any w s pos ty hp
          rw [decode_eq s pos hp] at hnx
          have hne := drop_ne hp
          have hpp := fixed_pos _ hne
          have hir := isrune_any s pos (w.iter s (pos + (fixed (rune ((bs s).drop pos))).2)) hs hp
          have hp' : (pos : Int) ≤ s.size := by omega
          have hK : RowKit.Hid (∀ k, Keep (fun _ => False) w (w.iter s k)) := fun k => (Keep.refl _ _).alloc _
          have hbad : RowKit.Hid (((rune ((bs s).drop pos)).2 = 0 ∨ (fixed (rune ((bs s).drop pos))).1 < 33 ∨ (fixed (rune ((bs s).drop pos))).1 = 127) → G = false) := by
            intro h
            rw [h1.out]
            refine gd_bad hne ?_
            by_cases z : (rune ((bs s).drop pos)).2 = 0
            · exact Or.inl z
            · unfold fixed at h
              rw [if_neg z] at h
              exact h
          have hgo : RowKit.Hid ((rune ((bs s).drop pos)).2 ≠ 0 → ¬ (fixed (rune ((bs s).drop pos))).1 < 33 → ¬ (fixed (rune ((bs s).drop pos))).1 = 127 → G = gd ((bs s).drop (pos + (fixed (rune ((bs s).drop pos))).2))) := by
            intro z z1 z2
            have e : fixed (rune ((bs s).drop pos)) = rune ((bs s).drop pos) := by unfold fixed; rw [if_neg z]
            rw [e] at z1 z2 ⊢
            rw [h1.out, gd_next hne (by rintro (x | x | x); exact z x; exact z1 x; exact z2 x), List.drop_drop]
          generalize hv : (fixed (rune ((bs s).drop pos))).1 = v at *
          generalize hn : (fixed (rune ((bs s).drop pos))).2 = n at *
          generalize (rune ((bs s).drop pos)).2 = z at *
          have hpp : RowKit.Hid (1 ≤ n ∧ n ≤ ((bs s).drop pos).length) := hpp
          clear h1 hv hn hne h16 h16'
          by_cases h33 : v < 33
          · have hF : RowKit.Hid (G = false) := hbad.out (Or.inr (Or.inl h33))
            have c1 : (v : Int) < 33 := by omega
            clear hbad hgo hir
            go_wp2_with fail
            go_ret
            exact ⟨by rw [hF.out]; rfl, hK.out _⟩
          · have c1 : ¬ (v : Int) < 33 := by omega
            by_cases h127 : v = 127
            · have hF : RowKit.Hid (G = false) := hbad.out (Or.inr (Or.inr h127))
              subst h127
              clear hbad hgo hir
              go_wp2_with fail
              go_ret
              exact ⟨by rw [hF.out]; rfl, hK.out _⟩
            · have c2 : ¬ (v : Int) = 127 := by omega
              have c3 : ((v : Int) == 127) = false := by rw [beq_eq_false_iff_ne]; exact c2
              by_cases hz0 : z = 0
              · have hF : RowKit.Hid (G = false) := hbad.out (Or.inl hz0)
                rw [decide_eq_false (by omega)] at hir
                clear hbad hgo
                go_wp2_with fail
                refine hir.mono ?_
                rintro e w' ⟨rfl, rfl⟩
                go_wp2_with fail
                go_ret
                exact ⟨by rw [hF.out]; rfl, hK.out _⟩
              · have hF : RowKit.Hid (G = gd ((bs s).drop (pos + n))) := hgo.out hz0 h33 h127
                rw [decide_eq_true hz0] at hir
                clear hbad hgo
                go_wp2_with fail
                refine hir.mono ?_
                rintro e w' ⟨rfl, rfl⟩
                go_wp2_with fail
                go_roundw
                case rel => exact ⟨pos + n, rfl, hF⟩
                case measure =>
                  have := hpp.out
                  rw [List.length_drop, bs_len] at this
                  simp; omega
        · have hnx : ∀ ty, (Instr.next (.pointer (some ⟨w.heap.size, 0, none⟩)) true ty).run Tryz.prog (w.iter s pos) = _ := fun ty => run_next_end w s pos ty hp
          have hF : RowKit.Hid (G = true) := by show _ = _; rw [h1.out, drop_end hp]; rfl
          clear h1
          go_wp2_with fail
          go_ret
          exact ⟨by rw [hF.out]; rfl, (Keep.refl _ _).alloc _⟩
    · have h16' : ¬ (s.size : Int) ≤ 16 := by omega
      have h16n : (16 : Int) < s.size := by omega
      have hg : RowKit.Hid (goodS (bs s) = false) := by
        show goodS _ = false
        unfold goodS
        rw [bs_len, decide_eq_false h16]
        simp
      rw [hg.out]
      clear h0 h16
      go_enter Tryz.func15, Tryz.ntmps15
      go_wp2_with fail
      go_ret
      exact ⟨rfl, Keep.refl _ _⟩
end Tg
end Go.Proofs.YtjgnajopomadpaaGreat
namespace Go.Proofs.YtjgnajopomadpaaGreat
open Go.ChangeShapes Go.WideShapes Go.ChangeAt Go.RowKit
namespace Tg
open Qm Crc
theorem bor_i64 (a b : Nat) (ha : a < 65536) (hb : b < 65536) : bits .or .i64 (a : Int) (b : Int) = ((a ||| b : Nat) : Int) := by
  show IntKind.i64.wrap ((BitVec.ofInt 64 (a : Int) ||| BitVec.ofInt 64 (b : Int)).toNat : Int) = _
  have h1 : (a ||| b) < 2 ^ 16 := Nat.or_lt_two_pow ha hb
  rw [BitVec.toNat_or, BitVec.ofInt_natCast, BitVec.ofInt_natCast, BitVec.toNat_ofNat, BitVec.toNat_ofNat, Nat.mod_eq_of_lt (by omega), Nat.mod_eq_of_lt (by omega)]
  exact wrapI (by omega) (by omega)
theorem or_two {a b : Nat} (ha : a < 256) (hb : b < 256) : bits .or .i64 (a : Int) ((b : Int) * 256) = a + 256 * b := by
  rw [show (b : Int) * 256 = ((b * 256 : Nat) : Int) by omega, bor_i64 a (b * 256) (by omega) (by omega)]
  have h := Nat.shiftLeft_add_eq_or_of_lt (i := 8) (b := a) (by omega) b
  rw [Nat.shiftLeft_eq, Nat.or_comm] at h
  have e : b * 2 ^ 8 = b * 256 := rfl
  rw [e] at h
  omega
theorem or_zero {a : Nat} (ha : a < 256) : bits .or .i64 0 (a : Int) = a := by
  have := bor_i64 0 a (by omega) (by omega)
  rw [Nat.zero_or] at this
  exact this
set_option maxRecDepth 100000 in
set_option maxHeartbeats 1000000 in
theorem getnum_any {s : ByteArray} (hs : s.size = 2) {c0 c1 : Nat} (h0 : (s[0]'(by omega)).toNat = c0) (h1 : (s[1]'(by omega)).toNat = c1) (w : World) :
    Calls Tryz.prog 58 #[.string s] w fun e w' => e = .returned (.int .i64 (c0 + 256 * c1)) ∧ w' = w := by
  have b0 : c0 < 256 := by rw [← h0]; exact UInt8.toNat_lt _
  have b1 : c1 < 256 := by rw [← h1]; exact UInt8.toNat_lt _
  have o1 := or_zero b0
  have o2 := or_two b0 b1
  have v0 : IntKind.i64.wrap (c0 : Int) = c0 := wrapI (by omega) (by omega)
  have v1 : IntKind.i64.wrap (c1 : Int) = c1 := wrapI (by omega) (by omega)
  have v2 : IntKind.i64.wrap ((c1 : Int) * 256) = c1 * 256 := wrapI (by omega) (by omega)
  go_enter Tryz.func58, Tryz.ntmps58
  go_wp2_with fail
  go_loopw [3, 7] (fun nv v wx => wx = w ∧ ((nv = .int .i64 0 ∧ v = .int .i64 0) ∨ (nv = .int .i64 c0 ∧ v = .int .i64 1) ∨ (nv = .int .i64 (c0 + 256 * c1) ∧ v = .int .i64 2))) (fun _ v _ => 2 - (intOf v).toNat)
  case atStart => exact ⟨rfl, Or.inl ⟨rfl, rfl⟩⟩
  case round =>
    obtain ⟨rfl, ⟨rfl, rfl⟩ | ⟨rfl, rfl⟩ | ⟨rfl, rfl⟩⟩ := hrel
    · go_wp2_with fail
      go_roundw
      case rel => exact ⟨trivial, Or.inr (Or.inl ⟨rfl, rfl⟩)⟩
      case measure => simp [intOf]
    · go_wp2_with fail
      go_roundw
      case rel => exact ⟨trivial, Or.inr (Or.inr ⟨rfl, rfl⟩)⟩
      case measure => simp [intOf]
    · go_wp2_with fail
      go_ret
      exact ⟨rfl, rfl⟩
/-- What a number's byte is. -/
def byN (v : Int) (k : Nat) : Int := if k = 0 then v % 256 else if k = 1 then v / 256 % 256 else if k = 2 then v / 65536 % 256 else v / 16777216 % 256
theorem byN_bd (v : Int) (k : Nat) : 0 ≤ byN v k ∧ byN v k ≤ 255 := by unfold byN; repeat' split <;> omega
/-- Bytes with a number written over. -/
def putF (d : Nat → Int) (v : Int) (o m i : Nat) : Int := if o ≤ i ∧ i < o + m then byN v (i - o) else d i
theorem putF_bd {d : Nat → Int} (h : ∀ i, 0 ≤ d i ∧ d i ≤ 255) (v : Int) (o m i : Nat) : 0 ≤ putF d v o m i ∧ putF d v o m i ≤ 255 := by
  unfold putF; split
  · exact byN_bd _ _
  · exact h i
theorem putF_set {d : Nat → Int} {v : Int} {w : World} {g N o k : Nat} (h : Blk w g N (fun i => .int .u8 (putF d v o k i))) : Blk (w.setCell ⟨g, o + k, none⟩ (.int .u8 (byN v k))) g N (fun i => .int .u8 (putF d v o (k + 1) i)) :=
  (h.set (o + k) (.int .u8 (byN v k))).congr (fun i hi => by
    by_cases c : i = o + k
    · rw [if_pos c]
      unfold putF
      rw [if_pos (by omega), show i - o = k by omega]
    · rw [if_neg c]
      unfold putF
      by_cases c2 : o ≤ i ∧ i < o + k
      · rw [if_pos c2, if_pos (by omega)]
      · rw [if_neg c2, if_neg (by omega)])
set_option maxRecDepth 100000 in
set_option maxHeartbeats 1000000 in
theorem putnum_any {w : World} {g N o m cap : Nat} {d : Nat → Int} (h : Blk w g N (fun i => .int .u8 (d i))) (ho : o + m ≤ N) (hm : m ≤ 4) (hc : m ≤ cap) (v : Int) :
    Calls Tryz.prog 70 #[.slice (some ⟨g, o, none⟩) m cap, .int .i64 v] w fun e w' => e = .returned (.tuple #[]) ∧ Blk w' g N (fun i => .int .u8 (putF d v o m i)) ∧ Keep (fun k => k = g) w w' := by
  have hB0 : RowKit.Hid (Blk w g N (fun i => .int .u8 (putF d v o 0 i))) := h.congr (fun i hi => by unfold putF; rw [if_neg (by omega)])
  have x0 : IntKind.u8.wrap v = byN v 0 := wrap8 rfl
  have x1 : IntKind.u8.wrap (v / 256) = byN v 1 := wrap8 rfl
  have x2 : IntKind.u8.wrap (v / 65536) = byN v 2 := wrap8 rfl
  have x3 : IntKind.u8.wrap (v / 16777216) = byN v 3 := wrap8 rfl
  have hob : RowKit.Hid (o + m ≤ N) := ho
  have hm8 : m = 0 ∨ m = 1 ∨ m = 2 ∨ m = 3 ∨ m = 4 := by omega
  clear h ho
  go_enter Tryz.func70, Tryz.ntmps70
  go_wp2_with fail
  go_loopw [7] (fun kv wx => ∃ k : Nat, kv = .int .i64 (k : Int) ∧ RowKit.Hid (k ≤ m) ∧ RowKit.Hid (Blk wx g N (fun i => .int .u8 (putF d v o k i)) ∧ Keep (fun k => k = g) w wx)) (fun kv _ => m - (intOf kv).toNat)
  case atStart => exact ⟨0, rfl, by show 0 ≤ m; omega, hB0, Keep.refl _ _⟩
  case round =>
    clear hB0
    obtain ⟨k, rfl, hk, hB⟩ := hrel
    by_cases hkm : k = m
    · subst hkm
      have hge : ¬ (k : Int) < k := by omega
      clear x0 x1 x2 x3
      go_wp2_with fail
      exact bodyPost_end (v := .tuple #[]) (results_none rfl _ _ _) rfl ⟨rfl, hB.out.1, hB.out.2⟩
    · have hlt : (k : Int) < m := by have := hk.out; omega
      have hkN := hB.out.1 (o + k) (by have := hob.out; have := hk.out; omega)
      obtain ⟨hk1, hk2⟩ := hkN
      have hw : IntKind.i64.wrap ((k : Int) + 1) = ((k + 1 : Nat) : Int) := by rw [show (k : Int) + 1 = ((k + 1 : Nat) : Int) by omega]; exact wrapI (by omega) (by omega)
      have hN1 : RowKit.Hid (Blk (wr.setCell ⟨g, o + k, none⟩ (.int .u8 (byN v k))) g N (fun i => .int .u8 (putF d v o (k + 1) i)) ∧ Keep (fun k => k = g) w (wr.setCell ⟨g, o + k, none⟩ (.int .u8 (byN v k)))) := ⟨putF_set hB.out.1, hB.out.2.setCell (Or.inl rfl) _⟩
      have hk1' : RowKit.Hid (k + 1 ≤ m) := by show k + 1 ≤ m; have := hk.out; omega
      generalize putF d v o k (o + k) = y at *
      clear hB
      rcases (by have := hk1'.out; omega : k = 0 ∨ k = 1 ∨ k = 2 ∨ k = 3) with rfl | rfl | rfl | rfl
      · simp only [Nat.add_zero] at hk1 hk2 hN1
        go_wp2_with fail
        exact ⟨⟨1, rfl, hk1', hN1⟩, by have := hk1'.out; simp [intOf]; omega⟩
      · go_wp2_with fail
        exact ⟨⟨2, rfl, hk1', hN1⟩, by have := hk1'.out; simp [intOf]; omega⟩
      · go_wp2_with fail
        exact ⟨⟨3, rfl, hk1', hN1⟩, by have := hk1'.out; simp [intOf]; omega⟩
      · go_wp2_with fail
        exact ⟨⟨4, rfl, hk1', hN1⟩, by have := hk1'.out; simp [intOf]; omega⟩
end Tg
end Go.Proofs.YtjgnajopomadpaaGreat
namespace Go.Proofs.YtjgnajopomadpaaGreat
open Go.ChangeShapes Go.WideShapes Go.ChangeAt Go.RowKit
namespace Tg
open Qm Crc
theorem made_blk (w : World) (n : Nat) : Blk (w.alloc (.cells (madeCells #[.int .u8 0] n) 5)) w.heap.size n (fun _ => .int .u8 0) := by
  rw [made_eq]
  exact blk_alloc w _ 5 n _ (by intro k hk; simp [hk])
theorem step_copy_run {P : Program} {ops : Array Oper} {o : Oper} {a : Act} {w : World} {K : Act → World → Prop} {Q : Exit → Act → World → Prop} {E : Prop}
    (hw : Region.wanted o (yielded ops a.tmps) = true) (d s : Operand) (t u : TypeId) (hop : o.op = Op.call { callee := Callee.builtin Builtin.copy, args := #[d, s], argTypes := #[t, u] })
    {v1 v2 v' : Value} {w' : World} (hd : a.eval d = v1) (hs : a.eval s = v2) (hrun : (Builtin.copy_ #[t, u] o.type #[v1, v2]).run P w = .ok v' w')
    (hK : K (a.put o.dst v') w') : if Region.wanted o (yielded ops a.tmps) = true then Oper.wp P o a w K Q else E := by
  rw [if_pos hw]
  unfold Oper.wp
  simp [execOp, hop, resolve, invoke, builtin, hd, hs, hrun, Result.andThen]
  exact hK
theorem gcall70 (args : Array Value) (w : World) : (callFunc 70 args).run Tryz.prog w = .ok (.enter 70 args) w := enters Tryz.func70 (by kernel_rfl) (by kernel_rfl) args w
theorem gcall71 (args : Array Value) (w : World) : (callFunc 71 args).run Tryz.prog w = .ok (.enter 71 args) w := enters Tryz.func71 (by kernel_rfl) (by kernel_rfl) args w
/-- An entry's bytes, by their number: its mark, its length, its name; then numbers are written over. -/
def nmF (nm : List Int) (i : Nat) : Int := if i = 0 then 86 else if i = 1 then (nm.length : Int) % 256 else if i < 18 then nm.getD (i - 2) 0 else 0
def hdF (nm : List Int) (f n : Int) : Nat → Int := putF (putF (nmF nm) f 18 2) n 20 2
def byF (nm : List Int) (f n s : Int) : Nat → Int := putF (hdF nm f n) s 22 4
theorem nmF_bd {nm : List Int} (hb : B8 nm) (i : Nat) : 0 ≤ nmF nm i ∧ nmF nm i ≤ 255 := by
  unfold nmF
  have := getD_bound hb (i - 2)
  repeat' split
  all_goals omega
theorem hdF_bd {nm : List Int} (hb : B8 nm) (f n : Int) (i : Nat) : 0 ≤ hdF nm f n i ∧ hdF nm f n i ≤ 255 := putF_bd (putF_bd (nmF_bd hb) _ _ _) _ _ _ i
theorem byF_bd {nm : List Int} (hb : B8 nm) (f n s : Int) (i : Nat) : 0 ≤ byF nm f n s i ∧ byF nm f n s i ≤ 255 := putF_bd (hdF_bd hb _ _) _ _ _ i
theorem nm_tab {nm : List Int} (h : nm.length ≤ 16) : nm ++ List.replicate (16 - nm.length) 0 = tab 16 (fun j => nm.getD j 0) := by
  refine List.ext_getElem (by simp [tab]; omega) (fun i h1 h2 => ?_)
  have hi : i < 16 := by simpa [tab] using h2
  by_cases c : i < nm.length
  · rw [List.getElem_append_left c]
    simp [tab, List.getD, c]
  · rw [List.getElem_append_right (by omega)]
    simp [tab, List.getD, c]
theorem head_tab {nm : List Int} (h : nm.length ≤ 16) (f n : Int) : tab 22 (hdF nm f n) = headE nm f n := by
  unfold headE
  rw [List.append_assoc [86], List.append_assoc [86], List.append_assoc _ nm, nm_tab h]
  rfl
theorem bytes_tab {nm : List Int} (h : nm.length ≤ 16) (f n : Int) : tab 32 (byF nm f n (val (more 0#32 (headE nm f n)))) = bytesE nm f n := by
  unfold bytesE
  rw [← head_tab h]
  generalize val _ = s
  rfl
/-- The middle of bytes: the entry in its block, the bytes in theirs. -/
structure Em (w0 w : World) (g gb : Nat) (x : En) (d : Nat → Int) : Prop where
  bx : Blk w gb 3 (trC x)
  bb : Blk w g 32 (fun i => .int .u8 (d i))
  ne : gb ≠ g
  kp : Keep (fun _ => False) w0 w
  ge : w0.heap.size ≤ g
theorem Em.go {w0 w w' : World} {g gb : Nat} {x : En} {d d' : Nat → Int} (h : Em w0 w g gb x d) (k : Keep (fun k => k = g) w w') (b : Blk w' g 32 (fun i => .int .u8 (d' i))) : Em w0 w' g gb x d' :=
  ⟨h.bx.keep k h.ne, b, h.ne, h.kp.next k (fun y hy e => by have := h.ge; omega), h.ge⟩
theorem Em.ce {w0 w w' : World} {g gb : Nat} {x : En} {d : Nat → Int} (h : Em w0 w g gb x d) (k : Keep (fun k => k = g) w w') : w'.cell? ⟨gb, 0, none⟩ = some (.string (strOfNums x.nm)) ∧ w'.cell? ⟨gb, 1, none⟩ = some (.int .i64 x.f) ∧ w'.cell? ⟨gb, 2, none⟩ = some (.int .i64 x.n) :=
  have b := h.bx.keep k h.ne
  ⟨(b 0 (by omega)).1, (b 1 (by omega)).1, (b 2 (by omega)).1⟩
set_option maxRecDepth 100000 in
set_option maxHeartbeats 2000000 in
theorem ebytes_any {x : En} (hb : B8 x.nm) (hl : x.nm.length ≤ 16) (w : World) :
    Calls Tryz.prog 59 #[.agg (trA x)] w fun e w' => e = .returned (.string (strOfNums (bytesE x.nm x.f x.n))) ∧ Keep (fun _ => False) w w' := by
  have hmk : ∀ w, (Instr.makeSlice 59 (.int .i64 32) (.int .i64 32)).run Tryz.prog w = .ok (.slice (some ⟨w.heap.size, 0, none⟩) 32 32) (w.alloc (.cells (madeCells #[.int .u8 0] 32) 5)) := make_bytes 32 (by omega)
  have hsz := strOfNums_size x.nm
  obtain ⟨R, hR⟩ : ∃ R, RowKit.Hid (R = strOfNums (bytesE x.nm x.f x.n)) := ⟨_, rfl⟩
  rw [← hR.out]
  have hh8 := headE_b8 hb x.f x.n
  have hhl := headE_len hl x.f x.n
  obtain ⟨S, hS0⟩ : ∃ S, S = strOfNums x.nm := ⟨_, rfl⟩
  have hS : RowKit.Hid (S = strOfNums x.nm) := hS0
  have hSn : RowKit.Hid (nums S = x.nm ∧ S.size ≤ 16) := ⟨by rw [hS0, nums_str hb], by rw [hS0, hsz]; exact hl⟩
  have x0 : IntKind.u8.wrap (S.size : Int) = (x.nm.length : Int) % 256 := wrap8 (by rw [hS0, hsz])
  obtain ⟨ln, hln0⟩ : ∃ ln, ln = (x.nm.length : Int) % 256 := ⟨_, rfl⟩
  have hln : RowKit.Hid (ln = (x.nm.length : Int) % 256) := hln0
  rw [← hln0] at x0
  have K1 : Keep (fun _ => False) w (w.alloc (.cells #[.string S, .int .i64 x.f, .int .i64 x.n] 53)) := (Keep.refl _ _).alloc _
  have L1 : Blk (w.alloc (.cells #[.string S, .int .i64 x.f, .int .i64 x.n] 53)) w.heap.size 3 (trC x) := blk_alloc w _ 53 3 _ (by rw [hS0]; intro k hk; rcases (by omega : k = 0 ∨ k = 1 ∨ k = 2) with rfl | rfl | rfl <;> rfl)
  unfold trA
  rw [← hS0]
  obtain ⟨xf, hxf0⟩ : ∃ y, y = x.f := ⟨_, rfl⟩
  obtain ⟨xn, hxn0⟩ : ∃ y, y = x.n := ⟨_, rfl⟩
  rw [← hxf0, ← hxn0] at K1 L1 ⊢
  have hxf : RowKit.Hid (xf = x.f) := hxf0
  have hxn : RowKit.Hid (xn = x.n) := hxn0
  clear hS0 hln0 hsz hxf0 hxn0
  go_enter Tryz.func59, Tryz.ntmps59
  go_upto_region 1 with fail
  have hgb : RowKit.Hid (w.heap.size < (w.alloc (.cells #[.string S, .int .i64 xf, .int .i64 xn] 53)).heap.size) := L1.lt (by omega)
  have hge : RowKit.Hid (w.heap.size ≤ (w.alloc (.cells #[.string S, .int .i64 xf, .int .i64 xn] 53)).heap.size) := K1.size
  generalize w.alloc (.cells #[.string S, .int .i64 xf, .int .i64 xn] 53) = w1 at *
  obtain ⟨gb, hgb0⟩ : ∃ gb, gb = w.heap.size := ⟨_, rfl⟩
  rw [← hgb0] at L1 hgb ⊢
  clear hgb0
  replace hmk := hmk w1
  have E2 : RowKit.Hid (Em w (w1.alloc (.cells (madeCells #[.int .u8 0] 32) 5)) w1.heap.size gb x (fun _ => 0)) := by
    have k2 : Keep (fun _ => False) w1 (w1.alloc (.cells (madeCells #[.int .u8 0] 32) 5)) := (Keep.refl _ _).alloc _
    refine ⟨L1.keep k2 (fun e => e), ?_, by have := hgb.out; omega, K1.trans k2, hge.out⟩
    exact made_blk w1 32
  generalize w1.alloc (.cells (madeCells #[.int .u8 0] 32) 5) = w2 at *
  obtain ⟨g, hg0⟩ : ∃ g, g = w1.heap.size := ⟨_, rfl⟩
  rw [← hg0] at E2 hmk hgb
  clear L1 K1 hge hg0
  go_upto_region 2 with fail
  clear hmk
  obtain ⟨c0, c1⟩ := E2.out.bb 0 (by omega)
  have E3 : RowKit.Hid (Em w (w2.setCell ⟨g, 0, none⟩ (.int .u8 86)) g gb x (fun i => if i = 0 then 86 else 0)) :=
    E2.out.go ((Keep.refl (fun k => k = g) _).setCell (Or.inl rfl) _) ((E2.out.bb.set 0 (.int .u8 86)).congr (fun i hi => by split <;> rfl))
  go_upto_region 3 with fail
  clear c0 c1
  generalize w2.setCell ⟨g, 0, none⟩ (.int .u8 86) = w3 at *
  obtain ⟨c0, c1⟩ := E3.out.bb 1 (by omega)
  obtain ⟨z0, -, -⟩ := E3.out.ce (Keep.refl (fun k => k = g) _)
  rw [← hS.out] at z0
  have E4 : RowKit.Hid (Em w (w3.setCell ⟨g, 1, none⟩ (.int .u8 ln)) g gb x (fun i => if i = 0 then 86 else if i = 1 then ln else 0)) :=
    E3.out.go ((Keep.refl (fun k => k = g) _).setCell (Or.inl rfl) _) ((E3.out.bb.set 1 (.int .u8 ln)).congr (fun i hi => by
      by_cases e : i = 1
      · subst e; rfl
      · rw [if_neg e]; by_cases e0 : i = 0
        · rw [if_pos e0, if_pos e0]
        · rw [if_neg e0, if_neg e0, if_neg e]))
  clear E2
  go_upto_region 4 with fail
  clear c0 c1 z0 E3
  generalize w3.setCell ⟨g, 1, none⟩ (.int .u8 ln) = w4 at *
  have hz : RowKit.Hid (∀ w', Keep (fun k => k = g) w4 w' → w'.cell? ⟨gb, 0, none⟩ = some (.string S) ∧ w'.cell? ⟨gb, 1, none⟩ = some (.int .i64 xf) ∧ w'.cell? ⟨gb, 2, none⟩ = some (.int .i64 xn)) := by
    intro w' k; rw [hS.out, hxf.out, hxn.out]; exact E4.out.ce k
  have hcp : RowKit.Hid ((Builtin.copy_ #[59, 9] 3 #[.slice (some ⟨g, 2, none⟩) 16 30, .string S]).run Tryz.prog w4.drew = .ok (.int .i64 ((min S.size 16 : Nat) : Int)) (w4.drew.setCells g 2 ((List.range (min S.size 16)).map fun i => .int .u8 ((nums S).getD i 0)))) := copy_str (f := fun i => .int .u8 (if i = 0 then 86 else if i = 1 then ln else 0)) E4.out.bb.drew 2 16 30 (by omega) S
  have E5 : RowKit.Hid (Em w (w4.drew.setCells g 2 ((List.range (min S.size 16)).map fun i => .int .u8 ((nums S).getD i 0))) g gb x (nmF x.nm)) :=
    E4.out.go ((Keep.refl (fun k => k = g) _).drew.setCells (Or.inl rfl) _ _) ((E4.out.bb.drew.setCells 2 (min S.size 16) (fun i => .int .u8 ((nums S).getD i 0)) (by omega)).congr (fun i hi => by
      have h5 := hSn.out
      rw [h5.1]
      have hsl : S.size = x.nm.length := by rw [← h5.1, nums_len]
      unfold nmF
      by_cases e0 : i = 0
      · rw [if_neg (by omega), if_pos e0, if_pos e0]
      · by_cases e1 : i = 1
        · rw [if_neg (by omega), if_neg e0, if_pos e1, if_neg e0, if_pos e1, hln.out]
        · by_cases e2 : i < 2 + min S.size 16
          · rw [if_pos ⟨by omega, e2⟩, if_neg e0, if_neg e1, if_pos (by omega)]
          · rw [if_neg (fun h => e2 h.2), if_neg e0, if_neg e1, if_neg e0, if_neg e1]
            split
            · rw [List.getD_eq_getElem?_getD, List.getElem?_eq_none (by omega)]; rfl
            · rfl))
  clear E4
  refine wp_region_noPanic ?_
  refine wp_region_held_drew (S := fun w' => Keep (fun k => k = g) w4 w') (by kernel_rfl) ((Keep.refl (fun k => k = g) _).drew) (fun hH0 => ?_)
  refine tk 0 hH0 ?_
  refine tk 1 hH0 ?_
  refine tk 2 hH0 ?_
  refine tk 3 hH0 ?_ (hy := Or.inl ⟨by rfl, by intro w' hSw; have z0 := hz.out w' hSw; have z1 := z0.2.1; have z2 := z0.2.2; replace z0 := z0.1; clear hSw; go_simp; try with_reducible rfl⟩)
  refine rd 4 (fun K hK => ?_)
  clear hS hln hSn
  have kA : Keep (fun k => k = g) w4 (w4.drew.setCells g 2 ((List.range (min S.size 16)).map fun i => .int .u8 ((nums S).getD i 0))) := (((Keep.refl (fun k => k = g) _).drew)).setCells (Or.inl rfl) _ _
  refine step_copy_run (by rfl) (.tmp 14) (.tmp 16) 59 9 rfl (by rfl) (by rfl) hcp.out ?_
  refine hK.out _ _ (kA) (fun hH1 => ?_)
  clear hK K
  simp only [Act.put, List.setIfInBounds_toArray, List.set_cons_zero, List.set_cons_succ]
  refine wpAnyH_done (by kernel_rfl) ?_ _
  refine NoPanic.normal ?_
  clear hH0 hH1 kA hcp hz
  generalize w4.drew.setCells g 2 ((List.range (min S.size 16)).map fun i => .int .u8 ((nums S).getD i 0)) = w5 at *
  generalize ((min S.size 16 : Nat) : Int) = r17
  go_upto_region 5 with fail
  have hz : RowKit.Hid (∀ w', Keep (fun k => k = g) w5 w' → w'.cell? ⟨gb, 1, none⟩ = some (.int .i64 xf)) := by
    intro w' k; rw [hxf.out]; exact (E5.out.ce k).2.1
  refine wp_region_noPanic ?_
  refine wp_region_held_drew (S := fun w' => Keep (fun k => k = g) w5 w') (by kernel_rfl) ((Keep.refl (fun k => k = g) _).drew) (fun hH0 => ?_)
  refine tk 0 hH0 ?_
  refine tk 1 hH0 ?_
  refine tk 2 hH0 ?_
  refine tk 3 (v := .int .i64 xf) hH0 ?_ (hy := yields_load (by rfl) 3 _ rfl (by rfl) (fun w' h => by have z := hz.out w' h; clear h; go_simp))
  refine rd 4 (fun K hK => ?_)
  refine step_call_want (vs := #[.slice (some ⟨g, 18, none⟩) 2 14, .int .i64 xf]) (R := fun v wz => v = .tuple #[] ∧ Blk wz g 32 (fun i => .int .u8 (putF (nmF x.nm) xf 18 2 i)) ∧ Keep (fun k => k = g) w5.drew wz) (by rfl) 70 _ _ rfl (by simp [Act.eval]) gcall70 ((putnum_any (E5.out.bb.drew) (by omega) (by omega) (by omega) xf).mono (by rintro e wz ⟨rfl, b, k⟩; exact ⟨_, rfl, rfl, b, k⟩)) ?_
  rintro v wA ⟨rfl, bA, kA⟩
  refine hK.out _ _ ((((Keep.refl (fun k => k = g) _).drew).trans kA)) (fun hH1 => ?_)
  clear hK K
  simp only [Act.put, List.setIfInBounds_toArray, List.set_cons_zero, List.set_cons_succ]
  refine wpAnyH_done (by kernel_rfl) ?_ _
  refine NoPanic.normal ?_
  have E6 : RowKit.Hid (Em w wA g gb x (putF (nmF x.nm) xf 18 2)) := E5.out.go ((Keep.refl (fun k => k = g) w5).drew.trans kA) bA
  clear hH0 hH1 kA bA hz E5
  go_upto_region 6 with fail
  have hz : RowKit.Hid (∀ w', Keep (fun k => k = g) wA w' → w'.cell? ⟨gb, 2, none⟩ = some (.int .i64 xn)) := by
    intro w' k; rw [hxn.out]; exact (E6.out.ce k).2.2
  refine wp_region_noPanic ?_
  refine wp_region_held_drew (S := fun w' => Keep (fun k => k = g) wA w') (by kernel_rfl) ((Keep.refl (fun k => k = g) _).drew) (fun hH0 => ?_)
  refine tk 0 hH0 ?_
  refine tk 1 hH0 ?_
  refine tk 2 hH0 ?_
  refine tk 3 (v := .int .i64 xn) hH0 ?_ (hy := yields_load (by rfl) 3 _ rfl (by rfl) (fun w' h => by have z := hz.out w' h; clear h; go_simp))
  refine rd 4 (fun K hK => ?_)
  refine step_call_want (vs := #[.slice (some ⟨g, 20, none⟩) 2 12, .int .i64 xn]) (R := fun v wz => v = .tuple #[] ∧ Blk wz g 32 (fun i => .int .u8 (putF (putF (nmF x.nm) xf 18 2) xn 20 2 i)) ∧ Keep (fun k => k = g) wA.drew wz) (by rfl) 70 _ _ rfl (by simp [Act.eval]) gcall70 ((putnum_any (E6.out.bb.drew) (by omega) (by omega) (by omega) xn).mono (by rintro e wz ⟨rfl, b, k⟩; exact ⟨_, rfl, rfl, b, k⟩)) ?_
  rintro v wB ⟨rfl, bB, kB⟩
  refine hK.out _ _ ((((Keep.refl (fun k => k = g) _).drew).trans kB)) (fun hH1 => ?_)
  clear hK K
  simp only [Act.put, List.setIfInBounds_toArray, List.set_cons_zero, List.set_cons_succ]
  refine wpAnyH_done (by kernel_rfl) ?_ _
  refine NoPanic.normal ?_
  have E7 : RowKit.Hid (Em w wB g gb x (hdF x.nm xf xn)) := E6.out.go ((Keep.refl (fun k => k = g) wA).drew.trans kB) bB
  clear hH0 hH1 kB bB hz E6
  obtain ⟨sm, hsm⟩ : ∃ sm, RowKit.Hid (sm = val (more 0#32 (headE x.nm x.f x.n))) := ⟨_, rfl⟩
  have hwsm : IntKind.i64.wrap sm = sm := by have := val_bd (more 0#32 (headE x.nm x.f x.n)); rw [hsm.out]; exact wrapI (by omega) (by omega)
  have hrow : RowKit.Hid (∀ w', Blk w' g 32 (fun i => .int .u8 (hdF x.nm xf xn i)) → Row w' (some ⟨g, 0, none⟩) 22 32 (headE x.nm x.f x.n)) := by
    intro w' b
    have := Blk.row b (hdF_bd hb xf xn) 0 22 32 (by omega) (by omega) (by omega)
    simp only [Nat.zero_add] at this
    rw [hxf.out, hxn.out] at this
    rw [head_tab hl] at this
    exact this
  go_upto_region 7 with fail
  refine wp_region_noPanic ?_
  refine wp_region_held_drew (S := fun w' => Keep (fun k => k = g) wB w') (by kernel_rfl) ((Keep.refl (fun k => k = g) _).drew) (fun hH0 => ?_)
  refine tk 0 hH0 ?_
  refine tk 1 hH0 ?_
  refine tk 2 hH0 ?_
  refine tk 3 hH0 ?_
  refine rd 4 (fun K hK => ?_)
  refine step_call_want (vs := #[.slice (some ⟨g, 0, none⟩) 22 32]) (R := fun v wz => v = .int .u32 sm ∧ wz = wB.drew) (by rfl) 71 _ _ rfl (by simp [Act.eval]) gcall71 ((sum_any _ 22 32 _ wB.drew (hrow.out _ E7.out.bb.drew)).mono (by rintro e wz ⟨rfl, rfl⟩; exact ⟨_, rfl, by rw [hsm.out], rfl⟩)) ?_
  rintro v wz ⟨rfl, rfl⟩
  refine hK.out _ _ (((Keep.refl (fun k => k = g) _).drew)) (fun hH1 => ?_)
  clear hK K
  simp only [Act.put, List.setIfInBounds_toArray, List.set_cons_zero, List.set_cons_succ]
  refine tk 5 hH1 ?_
  refine rd 6 (fun K hK => ?_)
  refine step_call_want (vs := #[.slice (some ⟨g, 22, none⟩) 4 10, .int .i64 sm]) (R := fun v wz => v = .tuple #[] ∧ Blk wz g 32 (fun i => .int .u8 (putF (hdF x.nm xf xn) sm 22 4 i)) ∧ Keep (fun k => k = g) wB.drew wz) (by rfl) 70 _ _ rfl (by simp [Act.eval]) gcall70 ((putnum_any (E7.out.bb.drew) (by omega) (by omega) (by omega) sm).mono (by rintro e wz ⟨rfl, b, k⟩; exact ⟨_, rfl, rfl, b, k⟩)) ?_
  rintro v wC ⟨rfl, bC, kC⟩
  refine hK.out _ _ ((((Keep.refl (fun k => k = g) _).drew).trans kC)) (fun hH2 => ?_)
  clear hK K
  simp only [Act.put, List.setIfInBounds_toArray, List.set_cons_zero, List.set_cons_succ]
  refine wpAnyH_done (by kernel_rfl) ?_ _
  refine NoPanic.normal ?_
  have E8 : RowKit.Hid (Em w wC g gb x (byF x.nm xf xn sm)) := E7.out.go ((Keep.refl (fun k => k = g) wB).drew.trans kC) bC
  have hcv : (convert 59 9 (.slice (some ⟨g, 0, none⟩) 32 32)).run Tryz.prog wC = .ok (.string R) wC := by
    have bC' : Blk wC g 32 (fun i => .int .u8 (byF x.nm xf xn sm i)) := bC
    have := Blk.row bC' (byF_bd hb xf xn sm) 0 32 32 (by omega) (by omega) (by omega)
    simp only [Nat.zero_add] at this
    rw [hxf.out, hxn.out, hsm.out] at this
    rw [bytes_tab hl] at this
    rw [hR.out]
    exact this.text
  have hK : RowKit.Hid (Keep (fun _ => False) w wC) := E8.out.kp
  clear hH0 hH1 hH2 kC bC hrow E7 E8 hR
  go_wp2_with fail
  go_ret
  exact ⟨rfl, hK⟩
end Tg
end Go.Proofs.YtjgnajopomadpaaGreat
