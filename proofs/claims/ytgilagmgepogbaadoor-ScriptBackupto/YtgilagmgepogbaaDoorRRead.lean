/-
  The document's own digits, raw and one over any memory; a row of bytes that may be nil.
-/
import Derived.Test.YtgilagmgepogbaaDoorRQuote
namespace Go.Proofs.YtgilagmgepogbaaDoor
open Go.ChangeShapes Go.WideShapes Go.ChangeAt Go.RowKit
namespace Tg
open Qm

/-- A row of one's own, or none. -/
structure Om (w wr : World) (a : Option Addr) (cap : Nat) (m : List Nat) : Prop where
  row : Row wr a m.length cap (ints m)
  keep : Keep (fun _ => False) w wr
  place : (a = none ∧ m = [] ∧ cap = 0) ∨ ∃ g, a = some ⟨g, 0, none⟩ ∧ Free wr g cap ∧ w.heap.size ≤ g
set_option maxRecDepth 100000 in
theorem Om.more {w wr w' : World} {a : Option Addr} {cap : Nat} {m : List Nat} (h : Om w wr a cap m) (u : Keep (fun _ => False) wr w') : Om w w' a cap m :=
  ⟨h.row.keep u (fun _ _ _ e => e), h.keep.trans u, h.place.imp id (fun ⟨g, e, hf, hg⟩ => ⟨g, e, hf.keep u (fun e => e), hg⟩)⟩
set_option maxRecDepth 100000 in
theorem Om.text {w wr : World} {a : Option Addr} {cap : Nat} {m : List Nat} (h : Om w wr a cap m) : (convert 67 9 (.slice a m.length cap)).run Tryd.prog wr = .ok (.string (str m)) wr := by
  rw [h.row.text, strOfNums_ints]
set_option maxRecDepth 100000 in
theorem Om.byte {w wr : World} {a : Option Addr} {cap : Nat} {m : List Nat} (h : Om w wr a cap m) : ∀ x ∈ m, x < 256 := fun x hx => by
  have := h.row.2.2.2.1 (x : Int) (by simp [ints]; exact ⟨x, hx, rfl⟩)
  omega
set_option maxRecDepth 100000 in
theorem Om.nil (w : World) : Om w w none 0 [] := ⟨⟨rfl, by simp, by omega, by simp [ints], Or.inl rfl⟩, Keep.refl _ _, Or.inl ⟨rfl, rfl, rfl⟩⟩

set_option maxRecDepth 100000 in
theorem Om.puts {w wr : World} {a : Option Addr} {cap : Nat} {m : List Nat} (h : Om w wr a cap m) (p : List Nat) (hp : p ≠ []) (hb : ∀ x ∈ p, x < 256) (hlen : m.length + p.length ≤ 140737488355323) :
    ∃ a' cap' w2, (Builtin.append_ #[67, 9] 67 #[.slice a m.length cap, .string (str p)]).run Tryd.prog wr = .ok (.slice a' (m.length + p.length) cap') w2 ∧ Om w w2 a' cap' (m ++ p) := by
  rcases h.place with ⟨rfl, rfl, rfl⟩ | ⟨g, rfl, hf, hg⟩
  · obtain ⟨i, hi, hz0, hz1, hz2⟩ := info_parts info5
    have hpl : 1 ≤ p.length := by cases p with | nil => exact absurd rfl hp | cons => simp
    obtain ⟨v', w', hrun, hown, hgrow, _⟩ := Lib.run_append_own_string (P := Tryd.prog) wr wr.heap.size 67 9 67 5 i Tryd.underlying67 Tryd.underlying9 hi hz0 hz1 hz2 (.slice none 0 0) 0 [] (World.ownsRow_nil wr _ 5 1) (str p) (by unfold maxLen; rw [str_size]; omega) (by rw [str_size]; simp at hlen; omega) (Nat.le_refl _)
    rw [str_size, Nat.zero_add, List.nil_append, strCells_str hb] at hown
    obtain ⟨hol, hcase⟩ := hown
    rcases hcase with ⟨_, h0⟩ | ⟨g', cap', cur, rfl, hg', hh, hn, hcm, hsz, htake⟩
    · omega
    · unfold maxLen at hcm
      have hcur : ∀ j, j < p.length → cur[j]? = some (.int .u8 ((ints p).getD j 0)) := by
        intro j hj
        have e1 : (cur.toList.take (p.length * 1))[j]? = cur.toList[j]? := by rw [List.getElem?_take]; rw [if_pos (by omega)]
        rw [htake] at e1
        rw [← Array.getElem?_toList, ← e1]
        have : j < (ints p).length := by rw [ints_len]; exact hj
        simp only [List.getElem?_map, List.getElem?_eq_getElem this, Option.map_some, List.getD, Option.getD_some]
      simp only [List.length_nil, Nat.zero_add, List.nil_append]
      refine ⟨some ⟨g', 0, none⟩, cap', w', by rw [hrun], ⟨⟨ints_len p, hn, by omega, ints_byte hb, Or.inr ⟨_, _, rfl, fun i hi => ?_⟩⟩, ?_, Or.inr ⟨g', rfl, fun i hi => ?_, ?_⟩⟩⟩
      · rw [Nat.zero_add]
        simp only [World.cell?, hh]
        simpa using hcur i hi
      · have hk : Keep (fun _ => False) wr w' := ⟨hgrow.os, hgrow.tape, hgrow.output, hgrow.size, fun k hk _ => hgrow.block k hk (by simp [Value.ownBlock])⟩
        exact h.keep.trans hk
      · have hi' : i < cur.size := by omega
        constructor
        · simp [World.cell?, hh, hi']
        · simp [World.frozen?, hh]
      · have := h.keep.size; omega
  · obtain ⟨g', cap', w2, hrun, hU⟩ := (Ow.mk h.row hf).puts p hb hlen
    have hO := (Og.mk (Ow.mk h.row hf) h.keep hg).up hU
    exact ⟨some ⟨g', 0, none⟩, cap', w2, hrun, ⟨hO.own.row, hO.keep, Or.inr ⟨g', rfl, hO.own.free, hO.new⟩⟩⟩

set_option maxRecDepth 100000 in
/-- New rows of two and three bytes become texts. -/
theorem text_new (w : World) (l : List Nat) (hb : ∀ x ∈ l, x < 256) (hl : l.length ≤ 9223372036854775807) : (convert 67 9 (.slice (some ⟨w.heap.size, 0, none⟩) l.length l.length)).run Tryd.prog (w.alloc (.cells (l.map (fun n : Nat => Value.int .u8 (n : Int))).toArray 5)) = .ok (.string (str l)) (w.alloc (.cells (l.map (fun n : Nat => Value.int .u8 (n : Int))).toArray 5)) :=
  (og_new w l hb hl).own.text
set_option maxRecDepth 100000 in
theorem text_two (w : World) {x y : Nat} {X Y : Int} (hx : x < 256) (hy : y < 256) (eX : X = x) (eY : Y = y) : (convert 67 9 (.slice (some ⟨w.heap.size, 0, none⟩) 2 2)).run Tryd.prog (w.alloc (.cells #[.int .u8 X, .int .u8 Y] 5)) = .ok (.string (str [x, y])) (w.alloc (.cells #[.int .u8 X, .int .u8 Y] 5)) := by
  subst eX eY; exact text_new w [x, y] (by simp; omega) (by simp)
set_option maxRecDepth 100000 in
theorem text_three (w : World) {x y z : Nat} {X Y Z : Int} (hx : x < 256) (hy : y < 256) (hz : z < 256) (eX : X = x) (eY : Y = y) (eZ : Z = z) : (convert 67 9 (.slice (some ⟨w.heap.size, 0, none⟩) 3 3)).run Tryd.prog (w.alloc (.cells #[.int .u8 X, .int .u8 Y, .int .u8 Z] 5)) = .ok (.string (str [x, y, z])) (w.alloc (.cells #[.int .u8 X, .int .u8 Y, .int .u8 Z] 5)) := by
  subst eX eY eZ; exact text_new w [x, y, z] (by simp; omega) (by simp)

set_option maxRecDepth 100000 in
set_option maxHeartbeats 1000000 in
theorem raw_any {v : Nat} (hv : v < 65536) (w : World) : Calls Tryd.prog 50 #[.int .i64 (v : Int)] w fun e w' => e = .returned (.string (str (enc v))) ∧ Keep (fun _ => False) w w' := by
  by_cases h1 : v < 128
  · have he : enc v = [v] := by unfold enc; rw [if_pos h1]
    have i1 : (v : Int) < 128 := by omega
    have ht := text_one w (v := v) (by omega)
    rw [he]
    clear he hv h1
    go_enter Tryd.func50, Tryd.ntmps50
    go_wp2_with fail
    go_ret
    exact ⟨rfl, (Keep.refl _ _).alloc _⟩
  by_cases h2 : v < 2048
  · have he : enc v = [192 + v / 64, 128 + v % 64] := by unfold enc; rw [if_neg h1, if_pos h2]
    have i1 : ¬ (v : Int) < 128 := by omega
    have i2 : (v : Int) < 2048 := by omega
    have ht := text_two w (x := 192 + v / 64) (y := 128 + v % 64) (X := 192 + (v : Int) / 64) (Y := 128 + (v : Int) % 64) (by omega) (by omega) (by omega) (by omega)
    rw [he]
    have d1 : (192 + (v : Int) / 64) % 256 = 192 + (v : Int) / 64 := by omega
    have d2 : (128 + (v : Int) % 64) % 256 = 128 + (v : Int) % 64 := by omega
    clear he hv h1 h2
    go_enter Tryd.func50, Tryd.ntmps50
    go_wp2_with fail
    go_ret
    exact ⟨rfl, (Keep.refl _ _).alloc _⟩
  · have he : enc v = [224 + v / 4096, 128 + v / 64 % 64, 128 + v % 64] := by unfold enc; rw [if_neg h1, if_neg h2, if_pos hv]
    have i1 : ¬ (v : Int) < 128 := by omega
    have i2 : ¬ (v : Int) < 2048 := by omega
    have i3 : (v : Int) < 65536 := by omega
    have ht := text_three w (x := 224 + v / 4096) (y := 128 + v / 64 % 64) (z := 128 + v % 64) (X := 224 + (v : Int) / 4096) (Y := 128 + (v : Int) / 64 % 64) (Z := 128 + (v : Int) % 64) (by omega) (by omega) (by omega) (by omega) (by omega) (by omega)
    rw [he]
    have d1 : (224 + (v : Int) / 4096) % 256 = 224 + (v : Int) / 4096 := by omega
    have d2 : (128 + (v : Int) / 64 % 64) % 256 = 128 + (v : Int) / 64 % 64 := by omega
    have d3 : (128 + (v : Int) % 64) % 256 = 128 + (v : Int) % 64 := by omega
    clear he hv h1 h2
    go_enter Tryd.func50, Tryd.ntmps50
    go_wp2_with fail
    go_ret
    exact ⟨rfl, (Keep.refl _ _).alloc _⟩

/-- The number that small digits tell. -/
def dv : List Nat → Nat → Option Nat
  | [], a => some a
  | c :: r, a => (digit c).bind (fun d => dv r (16 * a + d))
set_option maxRecDepth 100000 in
theorem dv_cons (c : Nat) (r : List Nat) (a : Nat) : dv (c :: r) a = (digit c).bind (fun d => dv r (16 * a + d)) := by rw [dv]
set_option maxRecDepth 100000 in
theorem dv_nil (a : Nat) : dv [] a = some a := by rw [dv]
def dn (l : List Nat) (n : Nat) : Option Nat := if l.length < n then none else dv (l.take n) 0
set_option maxRecDepth 100000 in
theorem dn2 (q : List Nat) : dn q 2 = dig2 q := by
  unfold dn
  match q with
  | [] => rfl
  | [_] => rfl
  | a :: b :: r =>
    rw [if_neg (by simp)]
    simp only [List.take_succ_cons, List.take_zero, dv, dig2]
    cases digit a with
    | none => rfl
    | some x => cases digit b with
      | none => rfl
      | some y => simp
set_option maxRecDepth 100000 in
theorem dn4 (q : List Nat) : dn q 4 = dig4 q := by
  unfold dn
  match q with
  | [] => rfl
  | [_] => rfl
  | [_, _] => rfl
  | [_, _, _] => rfl
  | a :: b :: c :: d :: r =>
    rw [if_neg (by simp)]
    simp only [List.take_succ_cons, List.take_zero, dv, dig4]
    cases digit a with
    | none => rfl
    | some x => cases digit b with
      | none => rfl
      | some y => cases digit c with
        | none => rfl
        | some z => cases digit d with
          | none => rfl
          | some t =>
            simp only [Option.bind_some, Option.some.injEq]
            omega

set_option maxHeartbeats 400000 in
set_option maxRecDepth 100000 in
theorem digits_any (s : ByteArray) (n : Nat) (hn : n ≤ 4) (hs : s.size ≤ 9223372036854775807) (w : World) :
    Calls Tryd.prog 49 #[.string s, .int .i64 (n : Int)] w fun e w' => ((∃ v, dn (bs s) n = some v ∧ e = .returned (.int .i64 (v : Nat))) ∨ (dn (bs s) n = none ∧ e = .returned (.int .i64 (-1)))) ∧ w' = w := by
  by_cases h0 : s.size < n
  · have hd : dn (bs s) n = none := by unfold dn; rw [if_pos (by rw [bs_len]; exact h0)]
    have i0 : (s.size : Int) < n := by omega
    have HD : Hid (dn (bs s) n = none) := hd
    clear hd h0
    go_enter Tryd.func49, Tryd.ntmps49
    go_wp2_with fail
    go_ret
    exact ⟨Or.inr ⟨HD.out, rfl⟩, rfl⟩
  have i0 : ¬ (s.size : Int) < n := by omega
  have hd : dn (bs s) n = dv ((bs s).take n) 0 := by unfold dn; rw [if_neg (by rw [bs_len]; exact h0)]
  rw [hd]
  have HN : Hid (n ≤ 4 ∧ n ≤ s.size) := ⟨hn, by omega⟩
  clear hd h0 hn
  go_enter Tryd.func49, Tryd.ntmps49
  go_wp2_with fail
  clear i0
  go_loop [5, 6] (fun v i => ∃ (k a : Nat), v = .int .i64 a ∧ i = .int .i64 k ∧ k ≤ n ∧ a < 16 ^ k ∧ dv (((bs s).take n).drop k) a = dv ((bs s).take n) 0) (fun _ i => n - (intOf i).toNat)
  case atStart => exact ⟨0, 0, rfl, rfl, by omega, by decide, by rw [List.drop_zero]⟩
  case round =>
    obtain ⟨k, a, rfl, rfl, hk, ha, hp⟩ := hrel
    by_cases hlt : k < n
    · have hks : k < s.size := by have := HN.out; omega
      have hdr : ((bs s).take n).drop k = (s[k]'hks).toNat :: ((bs s).take n).drop (k + 1) := by
        have h1 : k < ((bs s).take n).length := by rw [List.length_take, bs_len]; omega
        rw [List.drop_eq_getElem_cons h1, bs_at hks]
        simp [List.getD, List.getElem?_eq_getElem (show k < (bs s).length by rw [bs_len]; exact hks)]
      rw [hdr] at hp
      have hcb : (s[k]'hks).toNat < 256 := by rw [bs_at hks]; exact bs_lt s k
      have ha4 : a ≤ 4095 := by
        have h1 : k ≤ 3 := by have := HN.out; omega
        have h2 : 16 ^ k ≤ 16 ^ 3 := Nat.pow_le_pow_right (by omega) h1
        omega
      have hpw : ∀ d, d < 16 → 16 * a + d < 16 ^ (k + 1) := fun d hd => by rw [Nat.pow_succ]; omega
      have HW : Hid (∀ d, d < 16 → 16 * a + d < 16 ^ (k + 1)) := hpw
      have HK : Hid (k < n) := hlt
      have i1 : (k : Int) < n := by omega
      have i2 : (k : Int) < s.size := by omega
      have hki : IntKind.i64.wrap ((k : Int) + 1) = (k : Int) + 1 := by have := HN.out; rw [IntKind.wrap_i64]; omega
      have hmul : IntKind.i64.wrap (16 * (a : Int)) = 16 * (a : Int) := by rw [IntKind.wrap_i64]; omega
      rw [dv_cons] at hp
      have hp' := hp
      clear hdr ha hpw hk hp
      obtain ⟨c, hcc⟩ : ∃ c, (s[k]'hks).toNat = c := ⟨_, rfl⟩
      rw [hcc] at hp' hcb
      by_cases hA : 48 ≤ c ∧ c ≤ 57
      · have hh : digit c = some (c - 48) := by unfold digit; rw [if_pos hA]
        rw [hh, Option.bind_some] at hp'
        have HP : Hid (dv (((bs s).take n).drop (k + 1)) (16 * a + (c - 48)) = dv ((bs s).take n) 0) := hp'
        have HE : Hid (c - 48 < 16) := by show c - 48 < 16; omega
        have c1 : (48 : Int) ≤ (c : Int) := by omega
        have c2 : (c : Int) ≤ 57 := by omega
        have d1 : IntKind.u8.wrap ((c : Int) - 48) = ((c - 48 : Nat) : Int) := by rw [IntKind.wrap_u8]; omega
        have d3 : IntKind.i64.wrap (16 * (a : Int) + ((c - 48 : Nat) : Int)) = 16 * (a : Int) + ((c - 48 : Nat) : Int) := by rw [IntKind.wrap_i64]; omega
        have d6 : wrap64 ((c - 48 : Nat) : Int) = ((c - 48 : Nat) : Int) := by unfold wrap64; omega
        generalize c - 48 = d at *
        clear hp' hh hlt ha4 hA hcb
        go_wp2_with fail
        go_round
        case rel => exact ⟨k + 1, 16 * a + d, by go_num, by go_num, HK.out, HW.out _ HE.out, HP.out⟩
        case measure => have := HK.out; simp [intOf]; omega
      have h48 : (¬ (48 : Int) ≤ (c : Int)) ∨ ((48 : Int) ≤ (c : Int) ∧ ¬ (c : Int) ≤ 57) := by omega
      by_cases hB : 97 ≤ c ∧ c ≤ 102
      · have hh : digit c = some (c - 87) := by unfold digit; rw [if_neg hA, if_pos hB]
        rw [hh, Option.bind_some] at hp'
        have HP : Hid (dv (((bs s).take n).drop (k + 1)) (16 * a + (c - 87)) = dv ((bs s).take n) 0) := hp'
        have HE : Hid (c - 87 < 16 ∧ c - 87 = (c - 97) + 10) := by show c - 87 < 16 ∧ c - 87 = (c - 97) + 10; omega
        have c1 : (97 : Int) ≤ (c : Int) := by omega
        have c2 : (c : Int) ≤ 102 := by omega
        have d1 : IntKind.u8.wrap ((c : Int) - 97) = ((c - 97 : Nat) : Int) := by rw [IntKind.wrap_u8]; omega
        have d3 : IntKind.i64.wrap (16 * (a : Int) + ((c - 97 : Nat) : Int)) = 16 * (a : Int) + ((c - 97 : Nat) : Int) := by rw [IntKind.wrap_i64]; omega
        have d4 : IntKind.i64.wrap (16 * (a : Int) + ((c - 97 : Nat) : Int) + 10) = 16 * (a : Int) + ((c - 97 : Nat) : Int) + 10 := by rw [IntKind.wrap_i64]; omega
        have d6 : wrap64 ((c - 97 : Nat) : Int) = ((c - 97 : Nat) : Int) := by unfold wrap64; omega
        have c3 : ¬ (c : Int) ≤ 57 := by omega
        generalize c - 97 = x at *
        generalize c - 87 = d at *
        clear hp' hh hlt ha4 hA hcb hB h48
        go_wp2_with fail
        go_round
        case rel => exact ⟨k + 1, 16 * a + d, by rw [HE.out.2]; go_num, by go_num, HK.out, HW.out _ HE.out.1, HP.out⟩
        case measure => have := HK.out; simp [intOf]; omega
      · have hh : digit c = none := by unfold digit; rw [if_neg hA, if_neg hB]
        rw [hh, Option.bind_none] at hp'
        have HP : Hid (dv ((bs s).take n) 0 = none) := hp'.symm
        have h97 : (¬ (97 : Int) ≤ (c : Int)) ∨ ((97 : Int) ≤ (c : Int) ∧ ¬ (c : Int) ≤ 102) := by omega
        clear hp' hh hlt ha4 hA hcb hB hki hmul
        rcases h48 with h48 | ⟨h48, h57⟩ <;> rcases h97 with h97 | ⟨h97, h102⟩
        all_goals
          go_wp2_with fail
          go_ret
          exact ⟨Or.inr ⟨HP.out, rfl⟩, rfl⟩
    · have hd : ((bs s).take n).drop k = [] := by rw [List.drop_eq_nil_iff, List.length_take]; omega
      rw [hd, dv_nil] at hp
      have HP : Hid (dv ((bs s).take n) 0 = some a) := hp.symm
      have i1 : ¬ (k : Int) < n := by omega
      clear hp hd ha hlt hk
      go_wp2_with fail
      go_ret
      exact ⟨Or.inl ⟨a, HP.out, rfl⟩, rfl⟩

set_option maxRecDepth 100000 in
theorem one_raw {c : Nat} {r : List Nat} (h : c ≠ 92) : one (c :: r) = ((c :: r).take (rune (c :: r)).2, (rune (c :: r)).2) := by
  simp only [one]
  rw [if_pos h]
set_option maxRecDepth 100000 in
theorem bs_cons (s : ByteArray) {k : Nat} (hk : k < s.size) : (bs s).drop k = (s[k]'hk).toNat :: (bs s).drop (k + 1) := by
  have h1 : k < (bs s).length := by rw [bs_len]; exact hk
  rw [List.drop_eq_getElem_cons h1, bs_at hk, List.getD, List.getElem?_eq_getElem h1]
  rfl

set_option maxHeartbeats 2000000 in
set_option maxRecDepth 100000 in
theorem one_any (s : ByteArray) (h0 : 0 < s.size) (hs : s.size ≤ 140737488355328) (w : World) :
    Calls Tryd.prog 44 #[.string s] w fun e w' => e = .returned (.tuple #[.string (str (one (bs s)).1), .int .i64 ((one (bs s)).2 : Nat)]) ∧ Keep (fun _ => False) w w' := by
  have hb0 := bs_cons s h0
  rw [List.drop_zero] at hb0
  have i0 : (0 : Int) < s.size := by omega
  by_cases h92 : (s[0]'h0).toNat = 92
  · have hc0 : ((s[0]'h0).toNat : Int) = 92 := by omega
    rw [h92] at hb0
    by_cases h2 : s.size < 2
    · have hn : one (bs s) = ([], 0) := by
        have : (bs s).drop 1 = [] := by rw [List.drop_eq_nil_iff, bs_len]; omega
        rw [hb0, this]
        rfl
      rw [hn]
      have i2 : (s.size : Int) < 2 := by omega
      clear hn hb0 h92 h2
      go_enter Tryd.func44, Tryd.ntmps44
      go_wp2_with fail
      go_ret2
      exact ⟨rfl, Keep.refl _ _⟩
    have hl : 1 < s.size := by omega
    have i2 : ¬ (s.size : Int) < 2 := by omega
    have i3 : (1 : Int) < s.size := by omega
    have i6 : (2 : Int) ≤ s.size := by omega
    have e1 := extract_one s hl
    rw [bs_cons s hl] at hb0
    have hu : one (bs s) = if (s[1]'hl).toNat = 34 ∨ (s[1]'hl).toNat = 92 then ([(s[1]'hl).toNat], 2) else if (s[1]'hl).toNat = 110 then ([10], 2) else if (s[1]'hl).toNat = 116 then ([9], 2) else if (s[1]'hl).toNat = 48 then ([0], 2)
        else if (s[1]'hl).toNat = 120 then (match dig2 ((bs s).drop 2) with | some v => ([v], 4) | none => ([], 0)) else if (s[1]'hl).toNat = 117 then (match dig4 ((bs s).drop 2) with | some v => (enc v, 6) | none => ([], 0)) else ([], 0) := by
      conv => lhs; rw [hb0]
      rfl
    clear hb0 h2 h92
    by_cases h34' : (s[1]'hl).toNat = 34
    · rw [if_pos (by omega)] at hu
      have hc : ((s[1]'hl).toNat : Int) = 34 := by omega
      rw [hu]
      clear hu 
      go_enter Tryd.func44, Tryd.ntmps44
      go_wp2_with fail
      go_ret2
      exact ⟨rfl, Keep.refl _ _⟩
    by_cases h92' : (s[1]'hl).toNat = 92
    · rw [if_pos (by omega)] at hu
      have hc : ((s[1]'hl).toNat : Int) = 92 := by omega
      have n34 : (((s[1]'hl).toNat : Int) == 34) = false := by rw [beq_eq_false_iff_ne]; omega
      have m34 : ¬ ((s[1]'hl).toNat : Int) = 34 := by omega
      rw [hu]
      clear hu 
      go_enter Tryd.func44, Tryd.ntmps44
      go_wp2_with fail
      go_ret2
      exact ⟨rfl, Keep.refl _ _⟩
    rw [if_neg (by omega)] at hu
    by_cases h110' : (s[1]'hl).toNat = 110
    · rw [if_pos h110'] at hu
      have hc : ((s[1]'hl).toNat : Int) = 110 := by omega
      have n34 : (((s[1]'hl).toNat : Int) == 34) = false := by rw [beq_eq_false_iff_ne]; omega
      have m34 : ¬ ((s[1]'hl).toNat : Int) = 34 := by omega
      have n92 : (((s[1]'hl).toNat : Int) == 92) = false := by rw [beq_eq_false_iff_ne]; omega
      have m92 : ¬ ((s[1]'hl).toNat : Int) = 92 := by omega
      rw [hu]
      clear hu e1 h34' h92' h110'
      go_enter Tryd.func44, Tryd.ntmps44
      go_wp2_with fail
      go_ret2
      exact ⟨rfl, Keep.refl _ _⟩
    rw [if_neg h110'] at hu
    by_cases h116' : (s[1]'hl).toNat = 116
    · rw [if_pos h116'] at hu
      have hc : ((s[1]'hl).toNat : Int) = 116 := by omega
      have n34 : (((s[1]'hl).toNat : Int) == 34) = false := by rw [beq_eq_false_iff_ne]; omega
      have m34 : ¬ ((s[1]'hl).toNat : Int) = 34 := by omega
      have n92 : (((s[1]'hl).toNat : Int) == 92) = false := by rw [beq_eq_false_iff_ne]; omega
      have m92 : ¬ ((s[1]'hl).toNat : Int) = 92 := by omega
      have n110 : (((s[1]'hl).toNat : Int) == 110) = false := by rw [beq_eq_false_iff_ne]; omega
      have m110 : ¬ ((s[1]'hl).toNat : Int) = 110 := by omega
      rw [hu]
      clear hu e1 h34' h92' h110' h116'
      go_enter Tryd.func44, Tryd.ntmps44
      go_wp2_with fail
      go_ret2
      exact ⟨rfl, Keep.refl _ _⟩
    rw [if_neg h116'] at hu
    by_cases h48' : (s[1]'hl).toNat = 48
    · rw [if_pos h48'] at hu
      have hc : ((s[1]'hl).toNat : Int) = 48 := by omega
      have n34 : (((s[1]'hl).toNat : Int) == 34) = false := by rw [beq_eq_false_iff_ne]; omega
      have m34 : ¬ ((s[1]'hl).toNat : Int) = 34 := by omega
      have n92 : (((s[1]'hl).toNat : Int) == 92) = false := by rw [beq_eq_false_iff_ne]; omega
      have m92 : ¬ ((s[1]'hl).toNat : Int) = 92 := by omega
      have n110 : (((s[1]'hl).toNat : Int) == 110) = false := by rw [beq_eq_false_iff_ne]; omega
      have m110 : ¬ ((s[1]'hl).toNat : Int) = 110 := by omega
      have n116 : (((s[1]'hl).toNat : Int) == 116) = false := by rw [beq_eq_false_iff_ne]; omega
      have m116 : ¬ ((s[1]'hl).toNat : Int) = 116 := by omega
      rw [hu]
      clear hu e1 h34' h92' h110' h116' h48'
      go_enter Tryd.func44, Tryd.ntmps44
      go_wp2_with fail
      go_ret2
      exact ⟨rfl, Keep.refl _ _⟩
    rw [if_neg h48'] at hu
    by_cases h120' : (s[1]'hl).toNat = 120
    · rw [if_pos h120'] at hu
      have hq := digits_any (s.extract 2 s.size) 2 (by omega) (by simp; omega) w
      rw [bs_drop, dn2] at hq
      have hc : ((s[1]'hl).toNat : Int) = 120 := by omega
      have n34 : (((s[1]'hl).toNat : Int) == 34) = false := by rw [beq_eq_false_iff_ne]; omega
      have m34 : ¬ ((s[1]'hl).toNat : Int) = 34 := by omega
      have n92 : (((s[1]'hl).toNat : Int) == 92) = false := by rw [beq_eq_false_iff_ne]; omega
      have m92 : ¬ ((s[1]'hl).toNat : Int) = 92 := by omega
      have n110 : (((s[1]'hl).toNat : Int) == 110) = false := by rw [beq_eq_false_iff_ne]; omega
      have m110 : ¬ ((s[1]'hl).toNat : Int) = 110 := by omega
      have n116 : (((s[1]'hl).toNat : Int) == 116) = false := by rw [beq_eq_false_iff_ne]; omega
      have m116 : ¬ ((s[1]'hl).toNat : Int) = 116 := by omega
      have n48 : (((s[1]'hl).toNat : Int) == 48) = false := by rw [beq_eq_false_iff_ne]; omega
      have m48 : ¬ ((s[1]'hl).toNat : Int) = 48 := by omega
      clear e1 h34' h92' h110' h116' h48' h120'
      cases hd : dig2 ((bs s).drop 2) with
      | none =>
        rw [hd] at hu hq
        rw [hu]
        clear hd hu
        go_enter Tryd.func44, Tryd.ntmps44
        go_wp2_with fail
        refine hq.mono ?_
        rintro e w' ⟨⟨v, hv, rfl⟩ | ⟨_, rfl⟩, rfl⟩
        · cases hv
        · go_wp2_with fail
          go_ret2
          exact ⟨rfl, Keep.refl _ _⟩
      | some v =>
        have hvb := dig2_lt hd
        rw [hd] at hu hq
        rw [hu]
        have hv0 : ¬ (v : Int) < 0 := by omega
        have hw : IntKind.u8.wrap (v : Int) = (v : Int) := by rw [IntKind.wrap_u8]; omega
        have ht := text_one w (v := v) hvb
        clear hd hu hvb
        go_enter Tryd.func44, Tryd.ntmps44
        go_wp2_with fail
        refine hq.mono ?_
        rintro e w' ⟨⟨v2, hv, rfl⟩ | ⟨hv, rfl⟩, rfl⟩
        · obtain rfl : v = v2 := by simpa using hv
          go_wp2_with fail
          go_ret2
          exact ⟨rfl, (Keep.refl _ _).alloc _⟩
        · cases hv
    rw [if_neg h120'] at hu
    by_cases h117' : (s[1]'hl).toNat = 117
    · rw [if_pos h117'] at hu
      have hq := digits_any (s.extract 2 s.size) 4 (by omega) (by simp; omega) w
      rw [bs_drop, dn4] at hq
      have hc : ((s[1]'hl).toNat : Int) = 117 := by omega
      have n34 : (((s[1]'hl).toNat : Int) == 34) = false := by rw [beq_eq_false_iff_ne]; omega
      have m34 : ¬ ((s[1]'hl).toNat : Int) = 34 := by omega
      have n92 : (((s[1]'hl).toNat : Int) == 92) = false := by rw [beq_eq_false_iff_ne]; omega
      have m92 : ¬ ((s[1]'hl).toNat : Int) = 92 := by omega
      have n110 : (((s[1]'hl).toNat : Int) == 110) = false := by rw [beq_eq_false_iff_ne]; omega
      have m110 : ¬ ((s[1]'hl).toNat : Int) = 110 := by omega
      have n116 : (((s[1]'hl).toNat : Int) == 116) = false := by rw [beq_eq_false_iff_ne]; omega
      have m116 : ¬ ((s[1]'hl).toNat : Int) = 116 := by omega
      have n48 : (((s[1]'hl).toNat : Int) == 48) = false := by rw [beq_eq_false_iff_ne]; omega
      have m48 : ¬ ((s[1]'hl).toNat : Int) = 48 := by omega
      have n120 : (((s[1]'hl).toNat : Int) == 120) = false := by rw [beq_eq_false_iff_ne]; omega
      have m120 : ¬ ((s[1]'hl).toNat : Int) = 120 := by omega
      clear e1 h34' h92' h110' h116' h48' h120' h117'
      cases hd : dig4 ((bs s).drop 2) with
      | none =>
        rw [hd] at hu hq
        rw [hu]
        clear hd hu
        go_enter Tryd.func44, Tryd.ntmps44
        go_wp2_with fail
        refine hq.mono ?_
        rintro e w' ⟨⟨v, hv, rfl⟩ | ⟨_, rfl⟩, rfl⟩
        · cases hv
        · go_wp2_with fail
          go_ret2
          exact ⟨rfl, Keep.refl _ _⟩
      | some v =>
        have hvb := dig4_lt hd
        rw [hd] at hu hq
        rw [hu]
        have hv0 : ¬ (v : Int) < 0 := by omega
        have hr := raw_any hvb w
        clear hd hu hvb
        go_enter Tryd.func44, Tryd.ntmps44
        go_wp2_with fail
        refine hq.mono ?_
        rintro e w' ⟨⟨v2, hv, rfl⟩ | ⟨hv, rfl⟩, rfl⟩
        · obtain rfl : v = v2 := by simpa using hv
          go_wp2_with fail
          refine hr.mono ?_
          rintro e w2 ⟨rfl, hk⟩
          go_wp2_with fail
          go_ret2
          exact ⟨rfl, hk⟩
        · cases hv
    rw [if_neg h117'] at hu
    have n34 : (((s[1]'hl).toNat : Int) == 34) = false := by rw [beq_eq_false_iff_ne]; omega
    have m34 : ¬ ((s[1]'hl).toNat : Int) = 34 := by omega
    have n92 : (((s[1]'hl).toNat : Int) == 92) = false := by rw [beq_eq_false_iff_ne]; omega
    have m92 : ¬ ((s[1]'hl).toNat : Int) = 92 := by omega
    have n110 : (((s[1]'hl).toNat : Int) == 110) = false := by rw [beq_eq_false_iff_ne]; omega
    have m110 : ¬ ((s[1]'hl).toNat : Int) = 110 := by omega
    have n116 : (((s[1]'hl).toNat : Int) == 116) = false := by rw [beq_eq_false_iff_ne]; omega
    have m116 : ¬ ((s[1]'hl).toNat : Int) = 116 := by omega
    have n48 : (((s[1]'hl).toNat : Int) == 48) = false := by rw [beq_eq_false_iff_ne]; omega
    have m48 : ¬ ((s[1]'hl).toNat : Int) = 48 := by omega
    have n120 : (((s[1]'hl).toNat : Int) == 120) = false := by rw [beq_eq_false_iff_ne]; omega
    have m120 : ¬ ((s[1]'hl).toNat : Int) = 120 := by omega
    have n117 : (((s[1]'hl).toNat : Int) == 117) = false := by rw [beq_eq_false_iff_ne]; omega
    have m117 : ¬ ((s[1]'hl).toNat : Int) = 117 := by omega
    rw [hu]
    clear hu e1 h34' h92' h110' h116' h48' h120' h117'
    go_enter Tryd.func44, Tryd.ntmps44
    go_wp2_with fail
    go_ret2
    exact ⟨rfl, Keep.refl _ _⟩
  · have n92 : (((s[0]'h0).toNat : Int) == 92) = false := by rw [beq_eq_false_iff_ne]; omega
    have m92 : ¬ ((s[0]'h0).toNat : Int) = 92 := by omega
    have hru := rrune_any s (by omega) w
    have hrl := rune_len (l := bs s)
    rw [bs_len] at hrl
    have hu : one (bs s) = ((bs s).take (rune (bs s)).2, (rune (bs s)).2) := by
      rw [hb0]
      exact one_raw h92
    have he : str ((bs s).take (rune (bs s)).2) = s.extract 0 (rune (bs s)).2 := by rw [← bs_take, str_bs]
    rw [hu]
    show Calls _ _ _ _ fun e w' => e = .returned (.tuple #[.string (str ((bs s).take (rune (bs s)).2)), .int .i64 ((rune (bs s)).2 : Nat)]) ∧ _
    rw [he]
    clear hu hb0 h92 he
    generalize (rune (bs s)).2 = n at *
    generalize (rune (bs s)).1 = v at *
    have i1 : (n : Int) ≤ s.size := by omega
    go_enter Tryd.func44, Tryd.ntmps44
    go_wp2_with fail
    refine hru.mono ?_
    rintro e w0 ⟨rfl, rfl⟩
    go_wp2_with fail
    go_ret2
    exact ⟨rfl, Keep.refl _ _⟩

set_option maxRecDepth 100000 in
theorem dig2_len {l : List Nat} {v : Nat} (h : dig2 l = some v) : 2 ≤ l.length := by
  match l with
  | [] => cases h
  | [_] => cases h
  | _ :: _ :: _ => simp
set_option maxRecDepth 100000 in
theorem dig4_len {l : List Nat} {v : Nat} (h : dig4 l = some v) : 4 ≤ l.length := by
  match l with
  | [] => cases h
  | [_] => cases h
  | [_, _] => cases h
  | [_, _, _] => cases h
  | _ :: _ :: _ :: _ :: _ => simp
set_option maxRecDepth 100000 in
theorem one_bd (l : List Nat) : (one l).2 ≤ l.length ∧ (one l).1.length ≤ (one l).2 ∧ ((one l).2 ≠ 0 → (one l).1 ≠ []) := by
  match l with
  | [] => simp [one]
  | c :: r =>
    by_cases hc : c ≠ 92
    · rw [one_raw hc]
      have := rune_len (l := c :: r)
      refine ⟨this, by simp; omega, fun h e => ?_⟩
      have h1 := congrArg List.length e
      rw [List.length_take] at h1
      simp only [List.length_nil] at h1
      have : (rune (c :: r)).2 ≠ 0 := h
      omega
    · simp only [one]
      rw [if_neg hc]
      match r with
      | [] => simp
      | k :: q =>
        simp only
        split
        · simp
        · split
          · simp
          · split
            · simp
            · split
              · simp
              · split
                · cases hd : dig2 q with
                  | none => simp
                  | some v => have := dig2_len hd; simp; omega
                · split
                  · cases hd : dig4 q with
                    | none => simp
                    | some v =>
                      have h4 := dig4_len hd
                      have h5 := (enc_len v).1
                      have h6 := (enc_len v).2
                      refine ⟨by simp; omega, by simp; omega, fun _ e => ?_⟩
                      have e' : enc v = [] := e
                      rw [e'] at h5
                      simp at h5
                  · simp

set_option maxRecDepth 100000 in
theorem scan_end {r s : List Nat} {k f : Nat} : Qm.scan (34 :: r) s k (f + 1) = some (s, k) := by
  simp only [Qm.scan]; rw [if_pos trivial]
set_option maxRecDepth 100000 in
theorem scan_nil {s : List Nat} {k f : Nat} : Qm.scan [] s k (f + 1) = none := by simp only [Qm.scan]
set_option maxRecDepth 100000 in
theorem scan_step {c : Nat} {r s : List Nat} {k f : Nat} (hc : c ≠ 34) : Qm.scan (c :: r) s k (f + 1) = if (one (c :: r)).2 = 0 then none else Qm.scan ((c :: r).drop (one (c :: r)).2) (s ++ (one (c :: r)).1) (k + (one (c :: r)).2) f := by
  simp only [Qm.scan]; rw [if_neg hc]

end Tg
end Go.Proofs.YtgilagmgepogbaaDoor
