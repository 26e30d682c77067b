/-
  Digits read by the library's own ParseUint, at base 16 and 16 bits, for texts of one to four bytes, over any memory in which the library's error lies.
-/
import Derived.Test.YtgilagmgepogbaaDoorQuote
import Derived.Lib.IfaceEq
import Derived.RegionTactic
import Derived.Deep.RegionWith
import Derived.Shelf.Pu.SyntaxError
namespace Go.Proofs.YtgilagmgepogbaaDoor
open Go.ChangeShapes Go.WideShapes Go.ChangeAt Go.RowKit
namespace Tg
open Qm

/-- The library's error is there. -/
def Gl (w : World) : Prop := ∃ te pe, w.cell? ⟨0, 0, none⟩ = some (.iface te pe)
theorem Gl.keep {w w' : World} (h : Gl w) (k : Keep (fun _ => False) w w') : Gl w' := by
  obtain ⟨te, pe, hv⟩ := h
  refine ⟨te, pe, ?_⟩
  rw [← hv]
  exact World.cell?_of_block (w := w) (a := ⟨0, 0, none⟩) (k.block 0 (World.block_lt_of_cell? w _ hv) (fun e => e))

/-- Where the library's own contract of strconv.syntaxError finds its functions and types. -/
def renSyn : Go.Shelf.Ren := ⟨fun | 21 => 69 | 25 => 40 | n => n, fun | 24 => 71 | 37 => 67 | 39 => 112 | 44 => 116 | 47 => 80 | 67 => 37 | n => n, fun n => n⟩
theorem laysSyn : LaysPu.n21 Tryd.prog renSyn :=
  {
    mixed := by kernel_rfl, f21 := by kernel_rfl, f25 := by kernel_rfl, t0 := by kernel_rfl,
    a0 := fun _ => by kernel_rfl, z0 := fun _ => by kernel_rfl, v0 := fun _ => by kernel_rfl, i0 := by kernel_rfl,
    t3 := by kernel_rfl, a3 := fun _ => by kernel_rfl, z3 := fun _ => by kernel_rfl, v3 := fun _ => by kernel_rfl,
    i3 := by kernel_rfl, t4 := by kernel_rfl, a4 := fun _ => by kernel_rfl, z4 := fun _ => by kernel_rfl,
    v4 := fun _ => by kernel_rfl, i4 := by kernel_rfl, t5 := by kernel_rfl, a5 := fun _ => by kernel_rfl,
    z5 := fun _ => by kernel_rfl, v5 := fun _ => by kernel_rfl, i5 := by kernel_rfl, t9 := by kernel_rfl,
    a9 := fun _ => by kernel_rfl, z9 := fun _ => by kernel_rfl, v9 := fun _ => by kernel_rfl, i9 := by kernel_rfl,
    t24 := by kernel_rfl, a24 := fun _ => by kernel_rfl, z24 := fun _ => by kernel_rfl, v24 := fun _ => by kernel_rfl,
    i24 := by kernel_rfl, t37 := by kernel_rfl, a37 := fun _ => by kernel_rfl, z37 := fun _ => by kernel_rfl,
    v37 := fun _ => by kernel_rfl, i37 := by kernel_rfl, t39 := by kernel_rfl, a39 := fun _ => by kernel_rfl,
    z39 := fun _ => by kernel_rfl, v39 := fun _ => by kernel_rfl, i39 := by kernel_rfl, t44 := by kernel_rfl,
    a44 := fun _ => by kernel_rfl, z44 := fun _ => by kernel_rfl, v44 := fun _ => by kernel_rfl, i44 := by kernel_rfl,
    t47 := by kernel_rfl, a47 := fun _ => by kernel_rfl, z47 := fun _ => by kernel_rfl, v47 := fun _ => by kernel_rfl,
    i47 := by kernel_rfl, t67 := by kernel_rfl, a67 := fun _ => by kernel_rfl, z67 := fun _ => by kernel_rfl,
    v67 := fun _ => by kernel_rfl, i67 := by kernel_rfl, g0 := by kernel_rfl, m0 := by kernel_rfl }

/-- strconv.syntaxError: the library's own contract. -/
theorem syntax_error (fn s : ByteArray) (w : World) (hlim : s.size ≤ 140737488355328) (hG : Gl w) :
    Calls Tryd.prog 69 #[.string fn, .string s] w fun e w' => ∃ p, e = .returned (.pointer (some p)) ∧ Keep (fun _ => False) w w' := by
  obtain ⟨te, pe, hv⟩ := hG
  exact (AnyPu.strconv_syntaxError laysSyn fn s (.iface te pe) w (by omega) hv (Or.inr ⟨te, pe, rfl⟩)).mono fun _ _ ⟨N, h1, _, _, h2⟩ => ⟨_, h1, Keep.of_below h2⟩

theorem info56 : (Tryd.prog.info? 110).map (·.comparable) = some true := by kernel_rfl

set_option maxHeartbeats 4000000 in
set_option maxRecDepth 100000 in
theorem to_error (fn s : ByteArray) (base bits : Int) (w : World) (hlim : s.size ≤ 140737488355328) (hG : Gl w) :
    Calls Tryd.prog 66 #[.string fn, .string s, .int .i64 base, .int .i64 bits, .iface 110 (.int .i64 2)] w fun e w' => ∃ p, e = .returned (.iface 112 (.pointer (some p))) ∧ Keep (fun _ => False) w w' := by
  have heq : ∀ W, (binOp .eql 71 (.iface 110 (.int .i64 2)) (.iface 110 (.int .i64 2))).run Tryd.prog W = .ok (.bool true) W := fun W => Lib.run_eql_iface_int W 2 2 Tryd.underlying71 info56 Tryd.underlying110
  have hs := syntax_error fn s w hlim hG
  go_enter Tryd.func66, Tryd.ntmps66
  go_wp2_with fail
  refine hs.mono ?_
  rintro e w2 ⟨p, rfl, hk⟩
  go_wp2_with fail
  go_ret
  exact ⟨p, rfl, hk⟩

/-- A digit of base 16, small or great letters. -/
def hv (c : Nat) : Option Nat := if 48 ≤ c ∧ c ≤ 57 then some (c - 48) else if 97 ≤ c ∧ c ≤ 102 then some (c - 87) else if 65 ≤ c ∧ c ≤ 70 then some (c - 55) else none
/-- The number that digits tell. -/
def pv : List Nat → Nat → Option Nat
  | [], a => some a
  | c :: r, a => match hv c with | some d => pv r (16 * a + d) | none => none
theorem pv_cons (c : Nat) (r : List Nat) (a : Nat) : pv (c :: r) a = (hv c).bind (fun d => pv r (a * 16 + d)) := by
  rw [pv]
  cases hv c
  · rfl
  · rw [Nat.mul_comm 16 a]; rfl
theorem hv_lt {c d : Nat} (h : hv c = some d) : d < 16 := by
  unfold hv at h
  repeat' split at h
  all_goals simp at h
  all_goals omega
theorem hv_low_fin : ∀ c : Fin 256, ¬ (48 ≤ c.1 ∧ c.1 ≤ 57) → hv c.1 = if 97 ≤ (c.1 ||| 32) ∧ (c.1 ||| 32) ≤ 102 then some ((c.1 ||| 32) - 87) else none := by decide +kernel
theorem hv_low {c : Nat} (hc : c < 256) (h : ¬ (48 ≤ c ∧ c ≤ 57)) : hv c = if 97 ≤ (c ||| 32) ∧ (c ||| 32) ≤ 102 then some ((c ||| 32) - 87) else none := hv_low_fin ⟨c, hc⟩ h

theorem bor32 {c : Nat} (h : c < 256) : bits .or .u8 (c : Int) 32 = ((c ||| 32 : Nat) : Int) := by
  show IntKind.u8.wrap ((BitVec.ofInt 8 (c : Int) ||| BitVec.ofInt 8 32).toNat : Int) = _
  have h2 : c ||| 32 < 2 ^ 8 := Nat.or_lt_two_pow (by omega) (by decide)
  rw [IntKind.wrap_u8, BitVec.toNat_or, BitVec.ofInt_natCast, BitVec.toNat_ofNat, Nat.mod_eq_of_lt (by omega), show (BitVec.ofInt 8 32).toNat = 32 by decide]
  omega

set_option maxRecDepth 100000 in
theorem low_any {c : Nat} (hc : c < 256) (w : World) : Calls Tryd.prog 67 #[.int .u8 (c : Int)] w fun e w' => e = .returned (.int .u8 ((c ||| 32 : Nat) : Int)) ∧ w' = w := by
  have hb := bor32 hc
  go_enter Tryd.func67, Tryd.ntmps67
  go_wp2
  go_ret
  exact ⟨rfl, rfl⟩

/-- What is answered. -/
def presV : Option Nat → Value
  | some v => .tuple #[.int .u64 (v : Nat), .nilIface]
  | none => .tuple #[.int .u64 0, .iface 110 (.int .i64 2)]

set_option maxHeartbeats 4000000 in
set_option maxRecDepth 100000 in
theorem parse_in (t : ByteArray) (ht : t.size = 2 ∨ t.size = 4) (w : World) :
    Calls Tryd.prog 65 #[.string t, .int .i64 16, .int .i64 16] w fun e w' => e = .returned (presV (pv (bs t) 0)) ∧ Keep (fun _ => False) w w' := by
  obtain ⟨cap, w1, hconv, hrow, hbel, h000, h001⟩ := text_row w (ints (bs t)) (ints_byte (bs_byte t)) (by rw [ints_len, bs_len]; omega)
  rw [strOfNums_ints, str_bs, ints_len, bs_len] at hconv
  rw [ints_len, bs_len] at hrow
  have hK : Keep (fun _ => False) w w1 := Keep.of_below hbel
  have hne : (t.toList == []) = false := by
    rw [ByteArray.toList_eq, beq_eq_false_iff_ne]
    intro e
    have : t.size = 0 := by rw [← bs_len]; unfold bs; rw [e]; rfl
    omega
  have hcell : ∀ k, k < t.size → w1.cell? ⟨w.heap.size, k, none⟩ = some (.int .u8 ((bs t).getD k 0 : Nat)) := fun k hk => by
    rw [hrow.cellAt hk]
    congr 2
    simp [ints, List.getD]
    cases (bs t)[k]? <;> rfl
  clear hrow hbel h000 h001
  have HC : Hid (∀ k, k < t.size → w1.cell? ⟨w.heap.size, k, none⟩ = some (.int .u8 ((bs t).getD k 0 : Nat))) := hcell
  clear hcell
  have HT : Hid (t.size = 2 ∨ t.size = 4) := ht
  clear ht
  go_enter Tryd.func65, Tryd.ntmps65
  go_wp2
  have HH : Hid (Sem.run Tryd.prog (convert 9 67 (.string t)) w = .ok (.slice (some ⟨w.heap.size, 0, none⟩) t.size cap) w1) := hconv
  clear hconv hne HH
  go_loop [12, 13, 101] (fun u n i => ∃ (k a : Nat), u = .bool false ∧ n = .int .u64 a ∧ i = .int .i64 k ∧ k ≤ t.size ∧ a < 16 ^ k ∧ pv ((bs t).drop k) a = pv (bs t) 0) (fun _ _ i => t.size - (intOf i).toNat)
  case atStart => exact ⟨0, 0, rfl, rfl, rfl, by omega, by decide, by rw [List.drop_zero]⟩
  case round =>
    obtain ⟨k, a, rfl, rfl, rfl, hk, ha, hp⟩ := hrel
    by_cases hlt : k < t.size
    · have hc := HC.out k hlt
      have hcb := bs_lt t k
      have hdr : (bs t).drop k = (bs t).getD k 0 :: (bs t).drop (k + 1) := by
        have h1 : k < (bs t).length := by rw [bs_len]; exact hlt
        rw [List.drop_eq_getElem_cons h1]
        simp [List.getD, h1]
      rw [hdr] at hp
      have ha4 : a ≤ 4095 := by
        have h1 : k ≤ 3 := by have := HT.out; omega
        have h2 : 16 ^ k ≤ 16 ^ 3 := Nat.pow_le_pow_right (by omega) h1
        omega
      have hpw : ∀ d, d < 16 → a * 16 + d < 16 ^ (k + 1) := fun d hd => by rw [Nat.pow_succ]; omega
      have HW : Hid (∀ d, d < 16 → a * 16 + d < 16 ^ (k + 1)) := hpw
      have HK : Hid (k < t.size) := hlt
      have hlt' : (k : Int) < t.size := by omega
      have hki : IntKind.i64.wrap ((k : Int) + 1) = (k : Int) + 1 := by have := HT.out; rw [IntKind.wrap_i64]; omega
      generalize (bs t).getD k 0 = c at *
      have hai : (a : Int) ≤ 4095 := by omega
      rw [pv_cons] at hp
      clear hdr ha hpw
      have hcut : ¬ (1152921504606846976 : Int) ≤ a := by omega
      have hmul : IntKind.u64.wrap ((a : Int) * 16) = (a : Int) * 16 := by rw [IntKind.wrap_u64]; omega
      by_cases hA : 48 ≤ c ∧ c ≤ 57
      · have hh : hv c = some (c - 48) := by unfold hv; rw [if_pos hA]
        rw [hh] at hp
        have HP : Hid (pv ((bs t).drop (k + 1)) (a * 16 + (c - 48)) = pv (bs t) 0) := hp
        have c1 : (48 : Int) ≤ c := by omega
        have c2 : (c : Int) ≤ 57 := by omega
        have c3 : ((c : Int) == 95) = false := by rw [beq_eq_false_iff_ne]; omega
        have c4 : ¬ (c : Int) = 95 := by omega
        have d1 : IntKind.u8.wrap ((c : Int) - 48) = ((c - 48 : Nat) : Int) := by rw [IntKind.wrap_u8]; omega
        have HE : Hid (c - 48 < 16) := by show c - 48 < 16; omega
        have HD : Hid (((c - 48 : Nat) : Int) = (c : Int) - 48) := by show _ = _; omega
        have d2 : ¬ (16 : Int) ≤ ((c - 48 : Nat) : Int) := by omega
        have d3 : IntKind.u64.wrap ((a : Int) * 16 + ((c - 48 : Nat) : Int)) = (a : Int) * 16 + ((c - 48 : Nat) : Int) := by rw [IntKind.wrap_u64]; omega
        have d4 : ¬ (a : Int) * 16 + ((c - 48 : Nat) : Int) < (a : Int) * 16 := by omega
        have d5 : ¬ (65535 : Int) < (a : Int) * 16 + ((c - 48 : Nat) : Int) := by omega
        have d6 : IntKind.u64.wrap ((c - 48 : Nat) : Int) = ((c - 48 : Nat) : Int) := by rw [IntKind.wrap_u64]; omega
        generalize c - 48 = d at *
        clear hp hh hlt ha4 hai hk hA hcb
        go_wp2_with fail
        go_round
        case rel => exact ⟨k + 1, a * 16 + d, rfl, by go_num, by go_num, HK.out, HW.out _ HE.out, HP.out⟩
        case measure => have := HK.out; simp [intOf]; omega
      · have hlo := low_any hcb w1
        have hh := hv_low hcb hA
        have hll : c ||| 32 < 2 ^ 8 := Nat.or_lt_two_pow (by omega) (by decide)
        have HN0 : (hv c = none) → pv (bs t) 0 = none := fun e => by rw [e] at hp; exact hp.symm
        by_cases h95 : c = 95
        · subst h95
          have hN := HN0 (by decide)
          have HN : Hid (pv (bs t) 0 = none) := hN
          rw [show (95 ||| 32 : Nat) = 127 by decide] at hlo
          clear hp hh hA hN HN0 hll hcb hlt ha4 hai hk
          go_wp2_with fail
          refine hlo.mono ?_
          rintro e w' ⟨rfl, rfl⟩
          go_wp2_with fail
          refine hlo.mono ?_
          rintro e w' ⟨rfl, rfl⟩
          go_wp2_with fail
          go_ret2
          exact ⟨by rw [HN.out]; rfl, hK⟩
        have c3 : ((c : Int) == 95) = false := by rw [beq_eq_false_iff_ne]; omega
        have c4 : ¬ (c : Int) = 95 := by omega
        have h48 : (¬ (48 : Int) ≤ c) ∨ ((48 : Int) ≤ c ∧ ¬ (c : Int) ≤ 57) := by omega
        have hb := bor32 hcb
        generalize hlw : c ||| 32 = lw at *
        by_cases hB : 97 ≤ lw ∧ lw ≤ 122
        · have e1 : (97 : Int) ≤ lw := by omega
          have e2 : (lw : Int) ≤ 122 := by omega
          have f1 : IntKind.u8.wrap ((lw : Int) - 97) = ((lw - 97 : Nat) : Int) := by rw [IntKind.wrap_u8]; omega
          have f2 : IntKind.u8.wrap (((lw - 97 : Nat) : Int) + 10) = ((lw - 87 : Nat) : Int) := by rw [IntKind.wrap_u8]; omega
          by_cases hB1 : lw ≤ 102
          · rw [if_pos ⟨hB.1, hB1⟩] at hh
            rw [hh] at hp
            have HP : Hid (pv ((bs t).drop (k + 1)) (a * 16 + (lw - 87)) = pv (bs t) 0) := hp
            have HE : Hid (lw - 87 < 16) := by show lw - 87 < 16; omega
            have d2 : ¬ (16 : Int) ≤ ((lw - 87 : Nat) : Int) := by omega
            have d3 : IntKind.u64.wrap ((a : Int) * 16 + ((lw - 87 : Nat) : Int)) = (a : Int) * 16 + ((lw - 87 : Nat) : Int) := by rw [IntKind.wrap_u64]; omega
            have d4 : ¬ (a : Int) * 16 + ((lw - 87 : Nat) : Int) < (a : Int) * 16 := by omega
            have d5 : ¬ (65535 : Int) < (a : Int) * 16 + ((lw - 87 : Nat) : Int) := by omega
            have d6 : IntKind.u64.wrap ((lw - 87 : Nat) : Int) = ((lw - 87 : Nat) : Int) := by rw [IntKind.wrap_u64]; omega
            generalize lw - 87 = d at *
            generalize lw - 97 = x at *
            clear hp hh hlt ha4 hai hk hA hcb HN0 hll hB hB1 h95 hlw
            rcases h48 with h48 | ⟨h48, h57⟩
            all_goals
              clear hlo
              go_wp2
              go_round
              case rel => exact ⟨k + 1, a * 16 + d, rfl, by go_num, by go_num, HK.out, HW.out _ HE.out, HP.out⟩
              case measure => have := HK.out; simp [intOf]; omega
          · rw [if_neg (fun h => hB1 h.2)] at hh
            have hN := HN0 hh
            have HN : Hid (pv (bs t) 0 = none) := hN
            have d2 : (16 : Int) ≤ ((lw - 87 : Nat) : Int) := by omega
            generalize lw - 87 = d at *
            generalize lw - 97 = x at *
            clear hp hh hN hlt ha4 hai hk hA hcb HN0 hll hB hB1 h95 hlw
            rcases h48 with h48 | ⟨h48, h57⟩
            all_goals
              go_wp2_with fail
              refine hlo.mono ?_
              rintro e w' ⟨rfl, rfl⟩
              go_wp2_with fail
              refine hlo.mono ?_
              rintro e w' ⟨rfl, rfl⟩
              go_wp2_with fail
              refine hlo.mono ?_
              rintro e w' ⟨rfl, rfl⟩
              go_wp2_with fail
              go_ret2
              exact ⟨by rw [HN.out]; rfl, hK⟩
        · rw [if_neg (by omega)] at hh
          have hN := HN0 hh
          have HN : Hid (pv (bs t) 0 = none) := hN
          have h97 : (¬ (97 : Int) ≤ lw) ∨ ((97 : Int) ≤ lw ∧ ¬ (lw : Int) ≤ 122) := by omega
          clear hp hh hN hlt ha4 hai hk hA hcb HN0 hll hB h95 hlw
          clear hcut hmul hki
          rcases h97 with h97 | ⟨h97, h122⟩
          · rcases h48 with h48 | ⟨h48, h57⟩
            all_goals
              go_wp2_with fail
              refine hlo.mono ?_
              rintro e w' ⟨rfl, rfl⟩
              go_wp2_with fail
              go_ret2
              exact ⟨by rw [HN.out]; rfl, hK⟩
          · rcases h48 with h48 | ⟨h48, h57⟩
            all_goals
              go_wp2_with fail
              refine hlo.mono ?_
              rintro e w' ⟨rfl, rfl⟩
              go_wp2_with fail
              refine hlo.mono ?_
              rintro e w' ⟨rfl, rfl⟩
              go_wp2_with fail
              go_ret2
              exact ⟨by rw [HN.out]; rfl, hK⟩
    · have hd : (bs t).drop k = [] := by rw [List.drop_eq_nil_iff, bs_len]; omega
      rw [hd, pv] at hp
      have HP : Hid (pv (bs t) 0 = some a) := hp.symm
      have hge : ¬ (k : Int) < t.size := by omega
      clear hp hd hlt ha hk
      go_wp2_with fail
      go_ret2
      exact ⟨by rw [HP.out]; rfl, hK⟩

set_option maxRecDepth 100000 in
/-- What the outer ParseUint answers: a number and no error, or an error. -/
theorem parse_any (t : ByteArray) (ht : t.size = 2 ∨ t.size = 4) (w : World) (hG : Gl w) :
    Calls Tryd.prog 64 #[.string t, .int .i64 16, .int .i64 16] w fun e w' => ((∃ v, pv (bs t) 0 = some v ∧ e = .returned (.tuple #[.int .u64 (v : Nat), .nilIface])) ∨ (pv (bs t) 0 = none ∧ ∃ p, e = .returned (.tuple #[.int .u64 0, .iface 112 (.pointer (some p))]))) ∧ Keep (fun _ => False) w w' := by
  have hp := parse_in t ht w
  have hlim : t.size ≤ 140737488355328 := by omega
  cases hv : pv (bs t) 0 with
  | some v =>
    rw [hv] at hp
    unfold presV at hp
    clear ht
    go_enter Tryd.func64, Tryd.ntmps64
    go_wp2_with fail
    refine hp.mono ?_
    rintro e w' ⟨rfl, hk⟩
    go_wp2_with fail
    go_ret2
    exact ⟨Or.inl ⟨v, rfl, rfl⟩, hk⟩
  | none =>
    rw [hv] at hp
    unfold presV at hp
    clear ht
    go_enter Tryd.func64, Tryd.ntmps64
    go_wp2_with fail
    refine hp.mono ?_
    rintro e w' ⟨rfl, hk⟩
    have hte := to_error ⟨#[80, 97, 114, 115, 101, 85, 105, 110, 116]⟩ t 16 16 w' hlim (hG.keep hk)
    go_wp2_with fail
    refine hte.mono ?_
    rintro e w2 ⟨p, rfl, hk2⟩
    go_wp2_with fail
    go_ret2
    exact ⟨Or.inr ⟨trivial, p, rfl⟩, hk.trans hk2⟩
end Tg
end Go.Proofs.YtgilagmgepogbaaDoor
