/-
  The document's own reading of a script: Parse over any memory, for texts of any bytes.
-/
import Derived.Test.YtgilagmgepogbaaDoorRc
set_option linter.unusedVariables false
namespace Go.Proofs.YtgilagmgepogbaaDoor
open Go.ChangeShapes Go.WideShapes Go.ChangeAt Go.RowKit
namespace Tg
open Qm Km

theorem info32 : (Tryd.prog.info? 32).map (fun i => (i.zero, i.size, i.bytes)) = some (some (.agg #[.int .u8 0, .int .i64 0, .int .i64 0, .string ⟨#[]⟩]), 4, 40) := by kernel_rfl
/-- The document's own commands as cells. -/
def rc4 (c : Cm) : List Value := [.int .u8 (c.k : Nat), .int .i64 c.a, .int .i64 c.b, .string (str c.d)]
def rcs (L : List Cm) : List Value := L.flatMap rc4
theorem rcs_app (L : List Cm) (c : Cm) : rcs L ++ rc4 c = rcs (L ++ [c]) := by simp [rcs]
theorem rcs_len (L : List Cm) : (rcs L).length = 4 * L.length := by
  induction L with
  | nil => rfl
  | cons c L ih => simp only [rcs, List.flatMap_cons, List.length_append, List.length_cons] at *; simp [rc4] at *; omega
theorem lin_over {t l : List Nat} (h : l ∈ lin [] t) : ∀ x ∈ l, x ≠ 10 := fun x hx => ((lin_mem t [] (by simp) l h).1 x hx).1

set_option maxHeartbeats 4000000 in
set_option maxRecDepth 100000 in
/-- Parse. -/
theorem rparse_any (s : ByteArray) (hs : s.size ≤ 10000000) (w : World) : Calls Tryd.prog 11 #[.string s] w fun e w' => ∃ a cap, e = .returned (.tuple #[.slice a (parse (bs s)).1.length cap, .int .i64 ((parse (bs s)).2.1 : Nat), .int .i64 ((parse (bs s)).2.2 : Nat)]) ∧ Gw 32 4 w w' a (parse (bs s)).1.length cap (rcs (parse (bs s)).1) := by
  have hP : parse (bs s) = if 16384 < (bs s).length ∨ 1000 < (lin [] (bs s)).length then ([], 0, 2) else par (lin [] (bs s)) 0 [] := rfl
  rw [bs_len] at hP
  have hl := rlines_any s hs w
  have hmem : ∀ l ∈ lin [] (bs s), (∀ x ∈ l, x < 256) ∧ l.length ≤ s.size := fun l hl => by
    have := lin_mem (bs s) [] (by simp) l hl
    refine ⟨fun x hx => ?_, by have := this.2; rw [bs_len] at this; simp at this; omega⟩
    rcases (this.1 x hx).2 with h | h
    · cases h
    · exact bs_byte s x h
  have hten : ∀ l ∈ lin [] (bs s), ∀ x ∈ l, x ≠ 10 := fun l hl => lin_over hl
  generalize lin [] (bs s) = L at *
  by_cases h0 : 16384 < s.size
  · rw [if_pos (Or.inl h0)] at hP
    rw [hP]
    have i0 : (16384 : Int) < s.size := by omega
    clear hP h0 hmem hten
    go_enter Tryd.func11, Tryd.ntmps11
    go_wp2_with fail
    refine hl.mono ?_
    rintro e w1 ⟨a1, c1, rfl, hw1⟩
    have K1 := hw1.keep
    clear hw1
    go_wp2_with fail
    go_ret3
    exact ⟨none, 0, rfl, Gw.nil _ _ K1⟩
  have i0 : ¬ (16384 : Int) < s.size := by omega
  by_cases h1 : 1000 < L.length
  · rw [if_pos (Or.inr h1)] at hP
    rw [hP]
    have i1 : (1000 : Int) < L.length := by omega
    clear hP h0 h1 hmem hten
    go_enter Tryd.func11, Tryd.ntmps11
    go_wp2_with fail
    refine hl.mono ?_
    rintro e w1 ⟨a1, c1, rfl, hw1⟩
    have K1 := hw1.keep
    clear hw1
    go_wp2_with fail
    go_ret3
    exact ⟨none, 0, rfl, Gw.nil _ _ K1⟩
  rw [if_neg (by omega)] at hP
  rw [hP]
  have i1 : ¬ (1000 : Int) < L.length := by omega
  have HM : Hid ((∀ l ∈ L, (∀ x ∈ l, x < 256) ∧ l.length ≤ s.size) ∧ L.length ≤ 1000 ∧ s.size ≤ 16384 ∧ ∀ l ∈ L, ∀ x ∈ l, x ≠ 10) := ⟨hmem, by omega, by omega, hten⟩
  clear hP h0 h1 hmem hten hs
  go_enter Tryd.func11, Tryd.ntmps11
  go_wp2_with fail
  refine hl.mono ?_
  rintro e w1 ⟨a1, c1, rfl, hw1⟩
  clear hl
  obtain ⟨w2, hmk, hw2⟩ := make_none (t := 28) Tryd.underlying28 info32 (by decide) w1
  have HR : Hid (Rd w1 a1 (scs L)) := hw1.rd
  have K1 : Hid (Keep (fun _ => False) w w1) := hw1.keep
  have HW2 : Hid (Gw 32 4 w1 w2 (some ⟨w1.heap.size, 0, none⟩) 0 0 []) := hw2
  clear hw1 hw2
  go_wp2_with fail
  clear hmk
  go_loopw [6, 7] (fun y x wr => ∃ (i : Nat) (a : Option Addr) (cap : Nat) (acc : List Cm), x = .int .i64 (i : Nat) ∧ y = .slice a acc.length cap ∧ i ≤ L.length ∧ Gw 32 4 w1 wr a acc.length cap (rcs acc) ∧ par (L.drop i) i acc = par L 0 [] ∧ acc.length ≤ i) (fun _ x _ => L.length - (intOf x).toNat)
  case atStart => exact ⟨0, _, 0, [], rfl, rfl, by omega, HW2.out, rfl, by simp⟩
  case round =>
    obtain ⟨i, a, cap, acc, rfl, rfl, hi, hw, hpar, hacc⟩ := hrel
    clear HW2
    by_cases hlt : i < L.length
    · have hmi := HM.out.1 L[i] (List.getElem_mem hlt)
      have hti := HM.out.2.2.2 L[i] (List.getElem_mem hlt)
      have hLb := HM.out.2.1
      have hsb := HM.out.2.2.1
      rw [List.drop_eq_getElem_cons hlt] at hpar
      have hp1 : over L[i] = true → par (L.drop (i + 1)) (i + 1) acc = par L 0 [] := fun h => by rw [← hpar, par_ov h]
      have hp2 : over L[i] = false → (cmd L[i]).elim ([], i + 1, 3) (fun c => par (L.drop (i + 1)) (i + 1) (acc ++ [c])) = par L 0 [] := fun h => by rw [← hpar, par_cmd h]
      clear hpar
      have hcell : ∃ b o, a1 = some ⟨b, o, none⟩ ∧ ∀ W, Keep (fun _ => False) wr W → W.cell? ⟨b, o + i, none⟩ = some (.string (str L[i])) := by
        rcases (HR.out.keep hw.keep) with h | ⟨b, o, h1, h2⟩
        · have := congrArg List.length h
          rw [scs_len, List.length_nil] at this; omega
        · refine ⟨b, o, h1, fun W k => ?_⟩
          have := h2 i _ (show (scs L)[i]? = some (.string (str L[i])) by simp [scs, hlt])
          rw [← this]
          exact World.cell?_of_block (w := wr) (a := ⟨b, o + i, none⟩) (k.block b (World.block_lt_of_cell? wr _ this) (fun e => e))
      obtain ⟨b, o, rfl, HCL0⟩ := hcell
      have HCL : Hid (∀ W, Keep (fun _ => False) wr W → W.cell? ⟨b, o + i, none⟩ = some (.string (str L[i]))) := HCL0
      have hc := HCL0 wr (Keep.refl _ _)
      have hbt : bs (str L[i]) = L[i] := bs_str hmi.1
      have hts : (str L[i]).size = L[i].length := str_size _
      have hsk := rskip_any (str L[i]) (by omega) (by rw [hbt]; exact hti) wr
      have hln := fun W => rline_any (str L[i]) (by omega) W
      rw [hbt] at hsk hln
      generalize cmd L[i] = C at *
      generalize over L[i] = O at *
      generalize str L[i] = T at *
      have j1 : (i : Int) < L.length := by omega
      have j2 : IntKind.i64.wrap ((i : Int) + 1) = (i : Int) + 1 := by rw [IntKind.wrap_i64]; omega
      have HW : Hid (Gw 32 4 w1 wr a acc.length cap (rcs acc)) := hw
      clear HCL0 hmi hti hsb hbt hts hw hi
      cases O with
      | true =>
        have HP : Hid (par (L.drop (i + 1)) (i + 1) acc = par L 0 []) := hp1 rfl
        clear hp1 hp2 hln
        go_wp2_with fail
        refine hsk.mono ?_
        rintro e w2 ⟨rfl, k2⟩
        go_wp2_with fail
        go_roundw
        case rel => exact ⟨i + 1, a, cap, acc, by rw [Int.natCast_add]; rfl, rfl, by omega, HW.out.more k2, HP.out, by omega⟩
        case measure => simp [intOf]; omega
      | false =>
        have HP : Hid (C.elim ([], i + 1, 3) (fun c => par (L.drop (i + 1)) (i + 1) (acc ++ [c])) = par L 0 []) := hp2 rfl
        clear hp1 hp2
        go_wp2_with fail
        refine hsk.mono ?_
        rintro e w2 ⟨rfl, k2⟩
        have hc2 := HCL.out w2 k2
        clear hc
        go_wp2_with fail
        refine (hln _).mono ?_
        rintro e w3 ⟨⟨ck, ca, cb, cd, rfl, hv⟩, k3⟩
        have HV : Hid (∀ c, C = some c → ck = c.k ∧ ca = c.a ∧ cb = c.b ∧ cd = str c.d) := hv
        clear hln hv hsk hc2
        cases C with
        | none =>
          have HE : Hid (([], i + 1, 3) = par L 0 []) := HP.out
          clear HP HV
          go_wp2_with fail
          go_ret3
          refine ⟨none, 0, ?_, Gw.older (w0 := w1) ?_ K1.out⟩
          · rw [← HE.out]
            simp [Int.natCast_add]
          · rw [← HE.out]
            exact Gw.nil _ _ ((HW.out.keep.trans (k2.trans k3)).alloc _)
        | some c =>
          obtain ⟨rfl, rfl, rfl, rfl⟩ := HV.out c rfl
          have HE : Hid (par (L.drop (i + 1)) (i + 1) (acc ++ [c]) = par L 0 []) := HP.out
          obtain ⟨a4, cap4, w4, hrun, hw4⟩ := (HW.out.more ((k2.trans k3).alloc (.cells #[.int .u8 (c.k : Nat), .int .i64 c.a, .int .i64 c.b, .string (str c.d)] 32))).app1 (t := 28) Tryd.underlying28 info32 rfl (by decide) (by decide) (by omega) (rc4 c) rfl (by intro u hu; simp [rc4] at hu; rcases hu with rfl | rfl | rfl | rfl <;> rfl)
          rw [rcs_app] at hw4
          have HW4 : Hid (Gw 32 4 w1 w4 a4 (acc.length + 1) cap4 (rcs (acc ++ [c]))) := hw4
          have hrun' : (Builtin.append_ #[28, 28] 28 #[.slice a acc.length cap, .slice (some ⟨w3.heap.size + 1, 0, none⟩) 1 1]).run Tryd.prog ((w3.alloc (.cells #[.int .u8 (c.k : Nat), .int .i64 c.a, .int .i64 c.b, .string (str c.d)] 32)).alloc (.cells #[.int .u8 (c.k : Nat), .int .i64 c.a, .int .i64 c.b, .string (str c.d)] 32)) = .ok (.slice a4 (acc.length + 1) cap4) w4 := by
            rw [show (w3.alloc (.cells #[.int .u8 (c.k : Nat), .int .i64 c.a, .int .i64 c.b, .string (str c.d)] 32)).heap.size = w3.heap.size + 1 by simp] at hrun
            exact hrun
          clear hw4 HP HV hrun
          generalize str c.d = DD at *
          go_wp2_with (at_builtin; refine wpList_app rfl (.tmp 44) (.tmp 46) 28 28 rfl (by rfl) (by rfl) hrun' ?_)
          refine ⟨⟨i + 1, a4, cap4, acc ++ [c], by rw [Int.natCast_add]; rfl, by rw [List.length_append]; rfl, by omega, by rw [List.length_append]; exact HW4.out, HE.out, by rw [List.length_append]; simp; omega⟩, ?_⟩
          simp [intOf]; omega
    · have hie : i = L.length := by omega
      subst hie
      have hdr : L.drop L.length = [] := by simp
      rw [hdr] at hpar
      simp only [par] at hpar
      have j1 : ¬ (L.length : Int) < L.length := by omega
      have HP : Hid ((acc, 0, 0) = par L 0 []) := hpar
      have HW : Hid (Gw 32 4 w1 wr a acc.length cap (rcs acc)) := hw
      clear hpar hw hi hlt hacc hdr
      go_wp2_with fail
      go_ret3
      refine ⟨a, cap, ?_, Gw.older (w0 := w1) ?_ K1.out⟩
      · rw [← HP.out]; rfl
      · rw [← HP.out]; exact HW.out
end Tg
end Go.Proofs.YtgilagmgepogbaaDoor
