/-
  Parse over any memory, for texts of any bytes.
-/
import Derived.Test.YtgilagmgepogbaaDoorSd
import Derived.Test.YtgilagmgepogbaaDoorRRead2
set_option linter.unusedVariables false
namespace Go.Proofs.YtgilagmgepogbaaDoor
open Go.ChangeShapes Go.WideShapes Go.ChangeAt Go.RowKit
namespace Tg
open Qm Km

theorem Gw.older {e : TypeId} {sz : Nat} {w w0 wr : World} {a : Option Addr} {n cap : Nat} {xs : List Value} (h : Gw e sz w0 wr a n cap xs) (k : Keep (fun _ => False) w w0) : Gw e sz w wr a n cap xs := ⟨own_base h.own k.size, k.trans h.keep⟩
theorem skp_skp (l : List Nat) : skp (skp l) = skp l := by
  cases h : skp l with
  | nil => rfl
  | cons c r =>
    refine skp_cons_no ?_
    have := List.head?_dropWhile_not bl l
    unfold skp at h
    rw [h] at this
    simpa using this
theorem cmd_skp (l : List Nat) : cmd (skp l) = cmd l := by
  have h1 : wrd (skp l) = wrd l := by unfold wrd; rw [skp_skp]
  have h2 : rst (skp l) = rst l := by unfold rst; rw [skp_skp]
  unfold cmd
  rw [h1, h2]
theorem cv_one (c : Cm) : (cv c).oneCell' = true := rfl
theorem par_ov {l : List Nat} {ls : List (List Nat)} {i : Nat} {acc : List Cm} (h : over l = true) : par (l :: ls) i acc = par ls (i + 1) acc := by simp only [par]; rw [if_pos h]
theorem par_cmd {l : List Nat} {ls : List (List Nat)} {i : Nat} {acc : List Cm} (h : over l = false) : par (l :: ls) i acc = (cmd l).elim ([], i + 1, 3) (fun c => par ls (i + 1) (acc ++ [c])) := by
  simp only [par]
  rw [h]
  cases cmd l <;> rfl
def cvs (L : List Cm) : List Value := L.map cv
theorem cvs_app (L : List Cm) (c : Cm) : cvs L ++ [cv c] = cvs (L ++ [c]) := by simp [cvs]

set_option maxHeartbeats 4000000 in
set_option maxRecDepth 100000 in
/-- Parse. -/
theorem sparse_any (s : ByteArray) (w : World) (hG : Gl w) : Calls Tryd.prog 9 #[.string s] w fun e w' => ∃ a cap, e = .returned (.tuple #[.slice a (parse (bs s)).1.length cap, .int .i64 ((parse (bs s)).2.1 : Nat), .int .i64 ((parse (bs s)).2.2 : Nat)]) ∧ Gw 36 1 w w' a (parse (bs s)).1.length cap (cvs (parse (bs s)).1) := by
  have hP : parse (bs s) = if 16384 < (bs s).length ∨ 1000 < (lin [] (bs s)).length then ([], 0, 2) else par (lin [] (bs s)) 0 [] := rfl
  rw [bs_len] at hP
  by_cases h0 : 16384 < s.size
  · rw [if_pos (Or.inl h0)] at hP
    rw [hP]
    have i0 : (16384 : Int) < s.size := by omega
    clear hP h0
    go_enter Tryd.func9, Tryd.ntmps9
    go_wp2_with fail
    go_ret3
    exact ⟨none, 0, rfl, Gw.nil _ _ (Keep.refl _ _)⟩
  have i0 : ¬ (16384 : Int) < s.size := by omega
  have hl := lines_any s (by omega) w
  have hmem : ∀ l ∈ lin [] (bs s), (∀ x ∈ l, x < 256) ∧ l.length ≤ 16384 := fun l hl => by
    have := lin_mem (bs s) [] (by simp) l hl
    refine ⟨fun x hx => ?_, by have := this.2; rw [bs_len] at this; simp at this; omega⟩
    rcases (this.1 x hx).2 with h | h
    · cases h
    · exact bs_byte s x h
  generalize lin [] (bs s) = L at *
  by_cases h1 : 1000 < L.length
  · rw [if_pos (Or.inr h1)] at hP
    rw [hP]
    have i1 : (1000 : Int) < L.length := by omega
    clear hP h0 h1
    go_enter Tryd.func9, Tryd.ntmps9
    go_wp2_with fail
    refine hl.mono ?_
    rintro e w1 ⟨a1, c1, rfl, hw1⟩
    have K1 := hw1.keep
    clear hw1
    go_wp2_with fail
    go_ret3
    exact ⟨none, 0, rfl, Gw.nil _ _ K1⟩
  rw [if_neg (by omega)] at hP
  rw [hP]
  have i1 : ¬ (1000 : Int) < L.length := by omega
  have HM : Hid ((∀ l ∈ L, (∀ x ∈ l, x < 256) ∧ l.length ≤ 16384) ∧ L.length ≤ 1000) := ⟨hmem, by omega⟩
  have HG : Hid (Gl w) := hG
  have HC : Hid ((par L 0 []).1.length ≤ 1000) := by
    have := (par_ok L 16384 hmem 0 [] (by simp)).2
    show _ ≤ _
    simp at this; omega
  clear hP h0 h1 hmem hG
  go_enter Tryd.func9, Tryd.ntmps9
  go_wp2_with fail
  refine hl.mono ?_
  rintro e w1 ⟨a1, c1, rfl, hw1⟩
  clear hl
  have HR : Hid (Rd w1 a1 (scs L)) := hw1.rd
  have K1 : Hid (Keep (fun _ => False) w w1) := hw1.keep
  clear hw1
  go_wp2_with fail
  go_loopw [22, 6] (fun x y wr => ∃ (i : Nat) (a : Option Addr) (cap : Nat) (acc : List Cm), x = .int .i64 (i : Nat) ∧ y = .slice a acc.length cap ∧ i ≤ L.length ∧ Gw 36 1 w1 wr a acc.length cap (cvs acc) ∧ par (L.drop i) i acc = par L 0 [] ∧ acc.length ≤ i) (fun x _ _ => L.length - (intOf x).toNat)
  case atStart => exact ⟨0, none, 0, [], rfl, rfl, by omega, Gw.nil _ _ (Keep.refl _ _), rfl, by simp⟩
  case round =>
    obtain ⟨i, a, cap, acc, rfl, rfl, hi, hw, hpar, hacc⟩ := hrel
    by_cases hlt : i < L.length
    · have hmi := HM.out.1 L[i] (List.getElem_mem hlt)
      have hLb := HM.out.2
      rw [List.drop_eq_getElem_cons hlt] at hpar
      have hp1 : over L[i] = true → par (L.drop (i + 1)) (i + 1) acc = par L 0 [] := fun h => by rw [← hpar, par_ov h]
      have hp2 : over L[i] = false → (cmd L[i]).elim ([], i + 1, 3) (fun c => par (L.drop (i + 1)) (i + 1) (acc ++ [c])) = par L 0 [] := fun h => by rw [← hpar, par_cmd h]
      clear hpar
      have hcell : ∃ b o, a1 = some ⟨b, o, none⟩ ∧ wr.cell? ⟨b, o + i, none⟩ = some (.string (str L[i])) := by
        rcases (HR.out.keep hw.keep) with h | ⟨b, o, h1, h2⟩
        · have := congrArg List.length h
          rw [scs_len, List.length_nil] at this; omega
        · exact ⟨b, o, h1, h2 i _ (by simp [scs, hlt])⟩
      obtain ⟨b, o, rfl, hc⟩ := hcell
      have hbt : bs (str L[i]) = L[i] := bs_str hmi.1
      have hsk := skip_any (str L[i]) wr
      rw [hbt] at hsk
      have hsl := skp_len L[i]
      have hsb : bs (str (skp L[i])) = skp L[i] := bs_str fun x hx => hmi.1 x (skp_mem hx)
      have hss : (str (skp L[i])).size = (skp L[i]).length := str_size _
      have hov : over L[i] = (skp L[i] == [] || (skp L[i]).headD 0 == 35) := rfl
      have hcs := cmd_skp L[i]
      generalize cmd L[i] = C at *
      generalize over L[i] = O at *
      generalize str L[i] = T at *
      generalize skp L[i] = D at *
      generalize str D = S at *
      subst hsb
      have j1 : (i : Int) < L.length := by omega
      have j2 : IntKind.i64.wrap ((i : Int) + 1) = (i : Int) + 1 := by rw [IntKind.wrap_i64]; omega
      have HW : Hid (Gw 36 1 w1 wr a acc.length cap (cvs acc)) := hw
      by_cases hS0 : S.size = 0
      · have hD : bs S = [] := List.eq_nil_of_length_eq_zero (by rw [bs_len]; exact hS0)
        have hSe : S = ⟨#[]⟩ := by rw [← str_bs S, hD]; rfl
        rw [hD] at hov
        simp only [BEq.rfl, Bool.true_or] at hov
        have HP : Hid (par (L.drop (i + 1)) (i + 1) acc = par L 0 []) := hp1 hov
        subst hSe
        clear hov hp1 hp2 hw hmi hbt hsl hss hcs hD hS0 hi
        go_wp2_with fail
        refine hsk.mono ?_
        rintro e w2 ⟨rfl, k2⟩
        go_wp2_with fail
        go_roundw
        case rel => exact ⟨i + 1, a, cap, acc, by rw [Int.natCast_add]; rfl, rfl, by omega, HW.out.more k2, HP.out, by omega⟩
        case measure => simp [intOf]; omega
      · have hS1 : 0 < S.size := by omega
        have hb0 := bs_cons S hS1
        rw [List.drop_zero] at hb0
        have hne : (S.toList == []) = false := by
          have := beq_no (a := S) (b := ⟨#[]⟩) fun x => hS0 (by rw [x]; rfl)
          rwa [ByteArray.toList_eq ⟨#[]⟩] at this
        have j3 : (0 : Int) < S.size := by omega
        by_cases h35 : (S[0]'hS1).toNat = 35
        · have hc35 : ((S[0]'hS1).toNat : Int) = 35 := by omega
          rw [hb0, h35] at hov
          simp at hov
          have HP : Hid (par (L.drop (i + 1)) (i + 1) acc = par L 0 []) := hp1 hov
          clear hov hp1 hp2 hw hmi hbt hsl hss hcs hb0 hS0 h35 hi
          go_wp2_with fail
          refine hsk.mono ?_
          rintro e w2 ⟨rfl, k2⟩
          go_wp2_with fail
          go_roundw
          case rel => exact ⟨i + 1, a, cap, acc, by rw [Int.natCast_add]; rfl, rfl, by omega, HW.out.more k2, HP.out, by omega⟩
          case measure => simp [intOf]; omega
        · have hc35 : ¬ ((S[0]'hS1).toNat : Int) = 35 := by omega
          have hc36 : (((S[0]'hS1).toNat : Int) == 35) = false := by rw [beq_eq_false_iff_ne]; omega
          have hov2 : O = false := by rw [hov, hb0]; simp [h35]
          have HP : Hid (C.elim ([], i + 1, 3) (fun c => par (L.drop (i + 1)) (i + 1) (acc ++ [c])) = par L 0 []) := hp2 hov2
          have hS2 : S.size ≤ 16384 := by omega
          clear hov hov2 hp1 hp2 hw hmi hbt hsl hss hb0 hS0 h35 hi
          go_wp2_with fail
          refine hsk.mono ?_
          rintro e w2 ⟨rfl, k2⟩
          have hcm := command_any S (by omega) w2 ((HG.out.keep K1.out).keep (HW.out.keep.trans k2))
          rw [hcs] at hcm
          go_wp2_with fail
          refine hcm.mono ?_
          rintro e w3 ⟨⟨v, rfl, hv⟩, k3⟩
          have HV : Hid (∀ c, C = some c → v = cv c) := hv
          clear hcm hv hcs
          cases C with
          | none =>
            have HE : Hid (([], i + 1, 3) = par L 0 []) := HP.out
            clear HP HV
            go_wp2_with fail
            go_ret3
            refine ⟨none, 0, ?_, Gw.older (w0 := w1) ?_ K1.out⟩
            · rw [← HE.out]
              simp [Int.natCast_add]
            · rw [← HE.out]
              exact Gw.nil _ _ (HW.out.keep.trans (k2.trans k3))
          | some c =>
            obtain rfl := HV.out c rfl
            have HE : Hid (par (L.drop (i + 1)) (i + 1) (acc ++ [c]) = par L 0 []) := HP.out
            obtain ⟨a4, cap4, w4, hrun, hw4⟩ := (HW.out.more (k2.trans k3)).app1 (t := 23) Tryd.underlying23 info36 rfl (by decide) (by decide) (by omega) [cv c] rfl (by intro u hu; simp at hu; subst hu; exact cv_one c)
            rw [cvs_app] at hw4
            have HW4 : Hid (Gw 36 1 w1 w4 a4 (acc.length + 1) cap4 (cvs (acc ++ [c]))) := hw4
            clear hw4 HP HV
            have hcvv : cv c = .iface (cty c.k) (cag c) := rfl
            rw [hcvv] at hrun ⊢
            clear hcvv
            generalize cty c.k = TY at *
            generalize cag c = AG at *
            go_wp2_with (at_builtin; refine wpList_app rfl (.tmp 45) (.tmp 47) 23 23 rfl (by rfl) (by rfl) hrun ?_)
            refine ⟨⟨i + 1, a4, cap4, acc ++ [c], by rw [Int.natCast_add]; rfl, by rw [List.length_append]; rfl, by omega, by rw [List.length_append]; exact HW4.out, HE.out, by rw [List.length_append]; simp; omega⟩, ?_⟩
            simp [intOf]; omega
    · have hie : i = L.length := by omega
      subst hie
      have hdr : L.drop L.length = [] := by simp
      rw [hdr] at hpar
      simp only [par] at hpar
      have j1 : ¬ (L.length : Int) < L.length := by omega
      have HP : Hid ((acc, 0, 0) = par L 0 []) := hpar
      have HW : Hid (Gw 36 1 w1 wr a acc.length cap (cvs acc)) := hw
      clear hpar hw hi hlt hacc hdr
      go_wp2_with fail
      go_ret3
      refine ⟨a, cap, ?_, Gw.older (w0 := w1) ?_ K1.out⟩
      · rw [← HP.out]; rfl
      · rw [← HP.out]; exact HW.out
end Tg
end Go.Proofs.YtgilagmgepogbaaDoor
