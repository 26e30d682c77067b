/-
  The document's own sum (stage 3's).
-/
import Derived.Test.YtjgnajopomadpaaGreatOa
import Derived.WalkKit
import Derived.ProofKit
import Derived.OpenShut
import Derived.ShutString
import Derived.ChangeOld
import Derived.Below
import Derived.Deep.OwnRows
import Derived.Laws.IdiomCopy
import Derived.Lib.SlBytesConst
import Derived.Lib.ConvBytes
import Derived.Laws.BytesArg
import Derived.SizedLaws
import Derived.ArgAppend
namespace Go.Proofs.YtjgnajopomadpaaGreat
open Go.ChangeShapes Go.WideShapes Go.ChangeAt Go.RowKit
namespace Tg
end Tg
namespace Tg
theorem cells_at {w : World} {a : Addr} {l : List Int} (h : ∀ i, i < l.length → w.cell? (a.add i) = some (.int .u8 (l.getD i 0))) :
    ∀ j u, (l.map (Value.int .u8))[j]? = some u → w.cell? (a.add j) = some u := by
  intro j u hu
  have hj : j < l.length := by
    have := (List.getElem?_eq_some_iff.1 hu).1
    simpa using this
  rw [h j hj, ← hu]
  simp [List.getD, hj]
theorem getD_append_right (l m : List Int) (i : Nat) : (l ++ m).getD (l.length + i) 0 = m.getD i 0 := by
  simp only [List.getD]
  rw [List.getElem?_append_right (by omega)]
  congr 2
  omega
theorem append_rows (w : World) (g cap len : Nat) (l : List Int) (hr : Row w (some ⟨g, 0, none⟩) len cap l) (hfree : Free w g cap) 
    (a2 : Option Addr) (m c : Nat) (l2 : List Int) (hr2 : Row w a2 m c l2) (hlen : len + m ≤ 140737488355323) :
    ∃ g' cap' w2, (Builtin.append_ #[59, 59] 59 #[.slice (some ⟨g, 0, none⟩) len cap, .slice a2 m c]).run Tryz.prog w = .ok (.slice (some ⟨g', 0, none⟩) (len + m) cap') w2 ∧
      Row w2 (some ⟨g', 0, none⟩) (len + m) cap' (l ++ l2) ∧ Keep (fun b => b = g) w w2 ∧ (g' = g ∨ w.heap.size ≤ g') ∧ Free w2 g' cap' := by
  obtain ⟨i, hi, hz0, hz1, hz2⟩ := info_parts info5
  obtain ⟨h1, h2, h3, h4, h5⟩ := hr
  obtain ⟨k1, k2, k3, k4, k5⟩ := hr2
  have hcell : ∀ i, i < len → w.cell? ⟨g, i, none⟩ = some (.int .u8 (l.getD i 0)) := by
    rcases h5 with h0 | ⟨b, o, e, hc⟩
    · intro i hi; omega
    · simp only [Option.some.injEq, Addr.mk.injEq, and_true] at e
      obtain ⟨rfl, rfl⟩ := e
      intro i hi
      have := hc i hi
      rwa [Nat.zero_add] at this
  have hbd : ∀ n ∈ l ++ l2, 0 ≤ n ∧ n ≤ 255 := by
    intro n hn
    rcases List.mem_append.1 hn with h | h
    · exact h4 n h
    · exact k4 n h
  rcases k5 with hm0 | ⟨b2, o2, rfl, hc2⟩
  · subst hm0
    obtain rfl := List.eq_nil_of_length_eq_zero k1
    refine ⟨g, cap, w, ?_, ⟨by simp [h1], by omega, h3, hbd, Or.inr ⟨_, _, rfl, fun i hi => ?_⟩⟩, Keep.refl _ _, Or.inl rfl, hfree⟩
    · cases a2 with
      | none => simp [Builtin.append_, run_underlying Tryz.underlying59, sizeOf, typeInfo, hi, Builtin.lenOf, h2, Builtin.firstCells, Addr.add_lit, storeCells]
      | some x => simp [Builtin.append_, run_underlying Tryz.underlying59, sizeOf, typeInfo, hi, Builtin.lenOf, h2, Builtin.firstCells, loadCells, loadCellsFrom, Addr.add_lit, storeCells]
    · rw [Nat.zero_add, hcell i (by omega)]; simp
  · have hnews : ∀ j u, (l2.map (Value.int .u8))[j]? = some u → w.cell? ((⟨b2, o2, none⟩ : Addr).add j) = some u :=
      cells_at (a := ⟨b2, o2, none⟩) fun i hi => by rw [Addr.add_lit]; exact hc2 i (by omega)
    have holds : ∀ j u, (l.map (Value.int .u8))[j]? = some u → w.cell? ((⟨g, 0, none⟩ : Addr).add j) = some u :=
      cells_at (a := ⟨g, 0, none⟩) fun i hi => by rw [Addr.add_lit, Nat.zero_add]; exact hcell i (by omega)
    by_cases hroom : len + m ≤ cap
    · have hrun := run_append_room_cells (P := Tryz.prog) w 59 59 5 i Tryz.underlying59 hi g 0 len cap ⟨b2, o2, none⟩ m c (l2.map (Value.int .u8)) (by simp [k1, hz1]) hnews (ints_oneCell _ _) hroom
        (fun j hj => by rw [hz1, Nat.zero_add, Nat.mul_one]; exact (hfree (len + j) (by simp at hj; omega)).1)
        (fun j hj => by rw [hz1, Nat.zero_add, Nat.mul_one]; exact (hfree (len + j) (by simp at hj; omega)).2)
      rw [hz1, Nat.zero_add, Nat.mul_one] at hrun
      have hin := World.cell?_setCells_in g (l2.map (Value.int .u8)) len w (fun j hj => (hfree (len + j) (by simp at hj; omega)).1)
      refine ⟨g, cap, _, hrun, ⟨by simp [h1, k1], hroom, h3, hbd, Or.inr ⟨_, _, rfl, fun i hi => ?_⟩⟩, (Keep.refl (fun b => b = g) w).setCells (b := g) (Or.inl rfl) _ _, Or.inl rfl, fun i hi => ?_⟩
      · rw [Nat.zero_add]
        by_cases hil : i < len
        · rw [World.cell?_setCells_out g _ len w ⟨g, i, none⟩ (fun _ _ => Or.inl hil), hcell i hil, getD_append_left _ _ _ (by omega)]
        · have hj : i - len < l2.length := by omega
          have := hin (i - len) (by simpa using hj)
          have e : len + (i - len) = i := by omega
          rw [e] at this
          rw [this]
          have e2 : (l ++ l2).getD i 0 = l2.getD (i - len) 0 := by
            have := getD_append_right l l2 (i - len)
            rw [h1, e] at this
            exact this
          rw [e2]
          simp [List.getD, hj]
      · obtain ⟨f1, f2⟩ := hfree i hi
        refine ⟨?_, by rw [World.frozen?_setCells]; exact f2⟩
        by_cases hil : len ≤ i ∧ i < len + l2.length
        · have := hin (i - len) (by simp; omega)
          have e : len + (i - len) = i := by omega
          rw [e] at this
          rw [this]; rfl
        · rw [World.cell?_setCells_out g _ len w ⟨g, i, none⟩ (fun _ _ => by simp; omega)]; exact f1
    · obtain ⟨v', w', hrun, hown, hgrow⟩ := run_append_arg_grows (P := Tryz.prog) w 59 59 5 i (.int .u8 0) 1 1 Tryz.underlying59 hi hz0 hz1 hz2 rfl (by decide) ⟨g, 0, none⟩ len cap (l.map (Value.int .u8)) (by simp [h1]) holds
        ⟨b2, o2, none⟩ m c (l2.map (Value.int .u8)) (by simp [k1]) hnews (by omega) (by unfold maxLen; omega) (by omega)
      obtain ⟨hol, hcase⟩ := hown
      rcases hcase with ⟨_, h0⟩ | ⟨g', cap', cur, rfl, hg', hh, hn, hcm, hsz, htake⟩
      · omega
      · unfold maxLen at hcm
        have hcur : ∀ j, j < len + m → cur[j]? = some (.int .u8 ((l ++ l2).getD j 0)) := by
          intro j hj
          have e1 : (cur.toList.take ((len + m) * 1))[j]? = cur.toList[j]? := by rw [List.getElem?_take]; rw [if_pos (by omega)]
          rw [htake, ← List.map_append] at e1
          rw [← Array.getElem?_toList, ← e1]
          have : j < (l ++ l2).length := by simp; omega
          simp only [List.getElem?_map, List.getElem?_eq_getElem this, Option.map_some, List.getD, Option.getD_some]
        refine ⟨g', cap', w', hrun, ⟨by simp [h1, k1], hn, by omega, hbd, Or.inr ⟨_, _, rfl, fun i hi => ?_⟩⟩, Keep.of_grown hgrow, Or.inr (by omega), fun i hi => ?_⟩
        · rw [Nat.zero_add]
          simp only [World.cell?, hh]
          simpa using hcur i hi
        · have hi' : i < cur.size := by omega
          constructor
          · simp [World.cell?, hh, hi']
          · simp [World.frozen?, hh]
end Tg
namespace Crc
def poly : BitVec 32 := 3988292384#32
def step (c : BitVec 32) : BitVec 32 := if c.getLsbD 0 then (c >>> 1) ^^^ poly else c >>> 1
def steps : Nat → BitVec 32 → BitVec 32
  | 0, c => c
  | n + 1, c => step (steps n c)
def byteOf (n : Int) : BitVec 32 := BitVec.ofInt 32 n
def eat (c : BitVec 32) (n : Int) : BitVec 32 := steps 8 (c ^^^ byteOf n)
def run (c : BitVec 32) (l : List Int) : BitVec 32 := l.foldl eat c
def more (s : BitVec 32) (l : List Int) : BitVec 32 := ~~~ (run (~~~ s) l)
theorem run_append (c : BitVec 32) (a b : List Int) : run c (a ++ b) = run (run c a) b := by simp [run]
theorem more_append (s : BitVec 32) (a b : List Int) : more s (a ++ b) = more (more s a) b := by
  simp [more, run_append]
def bit (c : BitVec 32) (b : Bool) : BitVec 32 := if (c.getLsbD 0 ^^ b) then (c >>> 1) ^^^ poly else c >>> 1
def bitsOf (c x : BitVec 32) : Nat → BitVec 32
  | 0 => c
  | k + 1 => bit (bitsOf c x k) (x.getLsbD k)
theorem step_bit (c x : BitVec 32) : step (c ^^^ x) = bit c (x.getLsbD 0) ^^^ (x >>> 1) := by
  unfold step bit
  have e : (c ^^^ x) >>> 1 = (c >>> 1) ^^^ (x >>> 1) := BitVec.ushiftRight_xor_distrib c x 1
  rw [BitVec.getLsbD_xor, e]
  cases (c.getLsbD 0 ^^ x.getLsbD 0)
  · simp
  · simp only [if_true]; rw [BitVec.xor_assoc, BitVec.xor_comm (x >>> 1), ← BitVec.xor_assoc]
theorem steps_bits (c x : BitVec 32) (k : Nat) : steps k (c ^^^ x) = bitsOf c x k ^^^ (x >>> k) := by
  induction k with
  | zero => simp [steps, bitsOf]
  | succ k ih =>
    show step (steps k (c ^^^ x)) = _
    rw [ih, step_bit]
    show bit (bitsOf c x k) ((x >>> k).getLsbD 0) ^^^ (x >>> k) >>> 1 = bit (bitsOf c x k) (x.getLsbD k) ^^^ x >>> (k + 1)
    rw [BitVec.shiftRight_add]
    simp
theorem eat_bits (c : BitVec 32) (n : Int) (h0 : 0 ≤ n) (h1 : n ≤ 255) : eat c n = bitsOf c (byteOf n) 8 := by
  unfold eat
  rw [steps_bits]
  have e : byteOf n >>> 8 = 0#32 := by
    apply BitVec.eq_of_toNat_eq
    simp only [byteOf, BitVec.toNat_ushiftRight, BitVec.toNat_ofInt, Nat.shiftRight_eq_div_pow]
    have : (n % ((2 ^ 32 : Nat) : Int)).toNat ≤ 255 := by omega
    simp; omega
  rw [e, BitVec.xor_zero]
open Tg in
def val (c : BitVec 32) : Int := (c.toNat : Int)
open Tg in
theorem val_bd (c : BitVec 32) : 0 ≤ val c ∧ val c ≤ 4294967295 := by have := c.isLt; unfold val; omega
open Tg in
theorem val_inj {a b : BitVec 32} (h : val a = val b) : a = b := by unfold val at h; exact BitVec.eq_of_toNat_eq (by omega)
open Tg in
theorem val_of {n : Int} (h : 0 ≤ n ∧ n ≤ 4294967295) : ∃ c, n = val c := ⟨BitVec.ofInt 32 n, by rw [val, BitVec.toNat_ofInt]; omega⟩
open Tg in
theorem ret_u32 {a b : Int} (h : a = b) : Ending.returned (.int .u32 a) = .returned (.int .u32 b) := by rw [h]
open Tg in
theorem ofInt_val (a : BitVec 32) : BitVec.ofInt 32 (val a) = a := by
  rw [val, BitVec.ofInt_natCast, BitVec.ofNat_toNat, BitVec.setWidth_eq]
open Tg in
theorem bxor (a b : BitVec 32) : bits .xor .u32 (val a) (val b) = val (a ^^^ b) := by
  show IntKind.u32.wrap ((BitVec.ofInt 32 (val a) ^^^ BitVec.ofInt 32 (val b)).toNat : Int) = _
  rw [ofInt_val, ofInt_val, IntKind.wrap_u32, val]
  have := (a ^^^ b).isLt
  omega
open Tg in
theorem band (a b : BitVec 32) : bits .and .u32 (val a) (val b) = val (a &&& b) := by
  show IntKind.u32.wrap ((BitVec.ofInt 32 (val a) &&& BitVec.ofInt 32 (val b)).toNat : Int) = _
  rw [ofInt_val, ofInt_val, IntKind.wrap_u32, val]
  have := (a &&& b).isLt
  omega
open Tg in
theorem shr1 (a : BitVec 32) : val a / (2 : Int) = val (a >>> (1 : Nat)) := by
  rw [val, val, BitVec.toNat_ushiftRight, Nat.shiftRight_eq_div_pow]; omega
open Tg in
theorem lsb (a : BitVec 32) : (bits .and .u32 (val a) 1 == 1) = a.getLsbD 0 := by
  have e : bits .and .u32 (val a) 1 = val (a &&& 1#32) := band a 1#32
  rw [e, val, BitVec.toNat_and]
  have e1 : (1#32).toNat = 1 := rfl
  rw [e1, Nat.and_one_is_mod]
  have h : a.getLsbD 0 = decide (a.toNat % 2 = 1) := by
    rw [BitVec.getLsbD, Nat.testBit_zero]
  rw [h]
  by_cases g : a.toNat % 2 = 1
  · rw [g]; rfl
  · have : a.toNat % 2 = 0 := by omega
    rw [this]; rfl
open Tg in
theorem xpoly (a : BitVec 32) : bits .xor .u32 (val a / 2) 3988292384 = val (a >>> 1 ^^^ poly) := by
  rw [shr1]; exact bxor (a >>> 1) poly
open Tg in
theorem bit_t {x y : BitVec 32} (h : (bits .and .u32 (bits .xor .u32 (val x) (val y)) 1 == 1) = true) : bits .xor .u32 (val x / 2) 3988292384 = val (bit x (y.getLsbD 0)) := by
  rw [bxor, lsb, BitVec.getLsbD_xor] at h; rw [xpoly]; unfold bit; rw [h]; rfl
open Tg in
theorem bit_f {x y : BitVec 32} (h : (bits .and .u32 (bits .xor .u32 (val x) (val y)) 1 == 1) = false) : val x / 2 = val (bit x (y.getLsbD 0)) := by
  rw [bxor, lsb, BitVec.getLsbD_xor] at h; rw [shr1]; unfold bit; rw [h]; rfl
open Tg in
theorem bnot' (a : BitVec 32) : bits .xor .u32 (val a) 4294967295 = val (~~~ a) := by
  have e : (4294967295 : Int) = val (BitVec.allOnes 32) := by rfl
  rw [e, bxor, BitVec.xor_allOnes]
open Tg in
theorem byteOf_val {n : Int} (h : 0 ≤ n ∧ n ≤ 255) : val (byteOf n) = n := by
  rw [byteOf, val, BitVec.toNat_ofInt]
  omega
open Tg in
set_option maxRecDepth 100000 in
theorem bit_any (x y : BitVec 32) (w : World) :
    Calls Tryz.prog 79 #[.int .u32 (val x), .int .u32 (val y)] w fun e w' => e = .returned (.int .u32 (val (bit x (y.getLsbD 0)))) ∧ w' = w := by
  go_enter Tryz.func79, Tryz.ntmps79
  go_wp2
  · go_ret
    exact ⟨ret_u32 (bit_t ‹_›), rfl⟩
  · go_ret
    exact ⟨ret_u32 (bit_f ‹_›), rfl⟩
open Tg in
theorem take_succ (l : List Int) (k : Nat) (h : k < l.length) : l.take (k + 1) = l.take k ++ [l.getD k 0] := by
  rw [List.take_succ_eq_append_getElem h]; simp [List.getD, h]
open Tg in
theorem run_snoc (c : BitVec 32) (l : List Int) (k : Nat) (h : k < l.length) : run c (l.take (k + 1)) = steps 8 (run c (l.take k) ^^^ byteOf (l.getD k 0)) := by
  rw [take_succ l k h, run_append]; rfl
open Tg in
theorem ref_bit {n : Int} (h : 0 ≤ n ∧ n ≤ 255) (q : Nat) : ∃ y : BitVec 32, bits .and .u32 (n / 2 ^ q % 4294967296) 1 = val y ∧ y.getLsbD 0 = (byteOf n).getLsbD q := by
  have e : n / 2 ^ q % 4294967296 = val (byteOf n >>> q) := by
    have hv := byteOf_val h
    have h1 : val (byteOf n >>> q) = n / 2 ^ q := by
      rw [val] at hv
      rw [val, BitVec.toNat_ushiftRight, Nat.shiftRight_eq_div_pow]
      conv => rhs; rw [← hv]
      simp
    rw [h1]
    have h2 : 0 ≤ n / 2 ^ q := Int.ediv_nonneg h.1 (Int.pow_nonneg (by decide))
    have h3 : n / 2 ^ q ≤ n := Int.ediv_le_self _ h.1
    omega
  refine ⟨byteOf n >>> q &&& 1#32, ?_, ?_⟩
  · rw [e]; exact band _ 1#32
  · simp
open Tg in
set_option maxHeartbeats 400000 in
set_option maxRecDepth 100000 in
theorem refmore_any (s : BitVec 32) (a : Option Addr) (len cap : Nat) (l : List Int) (w : World) (hr : Row w a len cap l) :
    Calls Tryz.prog 77 #[.int .u32 (val s), .slice a len cap] w fun e w' => e = .returned (.int .u32 (val (more s l))) ∧ w' = w := by
  obtain ⟨hl, hlc, hcap, hb, hrow⟩ := hr
  have hn := bnot' s
  go_enter Tryz.func77, Tryz.ntmps77
  go_wp2
  clear hn
  go_loop [5, 6] (fun c i => ∃ k : Nat, k ≤ len ∧ i = .int .i64 k ∧ c = .int .u32 (val (run (~~~ s) (l.take k)))) (fun _ i => len - (intOf i).toNat)
  case atStart => exact ⟨0, by omega, rfl, rfl⟩
  case round =>
    obtain ⟨k, hk, rfl, rfl⟩ := hrel
    by_cases hlt : k < len
    · have hbk := getD_bound hb k
      rcases hrow with h0 | ⟨b, o, rfl, hcell⟩
      · omega
      · have hc := hcell k hlt
        have hs := run_snoc (~~~ s) l k (by omega)
        have HS : RowKit.Hid (run (~~~ s) (l.take (k + 1)) = steps 8 (run (~~~ s) (l.take k) ^^^ byteOf (l.getD k 0))) := hs
        clear hs hcell hb hl
        generalize run (~~~ s) (l.take k) = c at HS ⊢
        generalize l.getD k 0 = n at hc HS hbk
        go_wp2
        go_loop [5, 7] (fun u j => ∃ q : Nat, q ≤ 8 ∧ j = .int .i64 q ∧ u = .int .u32 (val (bitsOf c (byteOf n) q))) (fun _ j => 8 - (intOf j).toNat)
        case atStart => exact ⟨0, by omega, rfl, rfl⟩
        case round =>
          obtain ⟨q, hq, rfl, rfl⟩ := hrel
          by_cases hlq : q < 8
          · obtain ⟨y, hy, hyq⟩ := ref_bit hbk q
            have HB : RowKit.Hid (bitsOf c (byteOf n) (q + 1) = bit (bitsOf c (byteOf n) q) (y.getLsbD 0)) := by show _ = _; rw [hyq]; rfl
            clear hyq
            generalize bitsOf c (byteOf n) q = d at HB ⊢
            go_wp2_with (go_at_call 79; refine (bit_any _ _ _).mono ?_; rintro e w' ⟨rfl, rfl⟩)
            go_round
            case rel => exact ⟨q + 1, by omega, by go_num, by rw [HB.out]; rfl⟩
            case measure => simp [intOf]; omega
          · obtain rfl : q = 8 := by omega
            have HE : RowKit.Hid (run (~~~ s) (l.take (k + 1)) = bitsOf c (byteOf n) 8) := by show _ = _; rw [← eat_bits c n hbk.1 hbk.2]; exact HS.out
            clear HS
            go_wp2
            go_round
            case rel => exact ⟨k + 1, by omega, by go_num, by rw [HE.out]⟩
            case measure => simp [intOf]; omega
    · obtain rfl : k = len := by omega
      go_wp2
      go_ret
      exact ⟨ret_u32 (by rw [bnot', List.take_of_length_le (by omega)]; rfl), rfl⟩
open Tg in
set_option maxRecDepth 100000 in
theorem refsum_any (a : Option Addr) (len cap : Nat) (l : List Int) (w : World) (hr : Row w a len cap l) :
    Calls Tryz.prog 75 #[.slice a len cap] w fun e w' => e = .returned (.int .u32 (val (more 0#32 l))) ∧ w' = w := by
  have H : Calls Tryz.prog 77 #[.int .u32 0, .slice a len cap] w fun e w' => e = .returned (.int .u32 (val (more 0#32 l))) ∧ w' = w := refmore_any 0#32 a len cap l w hr
  go_enter Tryz.func75, Tryz.ntmps75
  go_wp2_with (go_at_call 77; refine H.mono ?_; rintro e w' ⟨rfl, rfl⟩)
  go_ret
  exact ⟨rfl, rfl⟩
end Crc
end Go.Proofs.YtjgnajopomadpaaGreat
