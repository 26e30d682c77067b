/-
  VolPlays, given what a store's calls answer.
-/
import Derived.Test.YtjgnajopomadpaaGreatRg
import Derived.Test.YtjgnajopomadpaaGreatRc
namespace Go.Proofs.YtjgnajopomadpaaGreat
open Go.ChangeShapes Go.WideShapes Go.ChangeAt Go.RowKit
namespace Tg
open Qm Crc
/-- A list of calls as an argument. -/
def Acs (w : World) (a : Option Addr) (len cap : Nat) : Prop := len ≤ cap ∧ cap ≤ 9223372036854775807 ∧ (len = 0 ∨ ∃ g o, a = some ⟨g, o, none⟩ ∧ ∀ i, i < len → ∃ x : Ac, x.Ok ∧ ∀ j, j < 6 → w.cell? ⟨g, o + i * 6 + j, none⟩ = some (acC x j))
theorem Acs.keep {w w' : World} {a : Option Addr} {len cap : Nat} (h : Acs w a len cap) (k : Keep (fun _ => False) w w') : Acs w' a len cap := by
  refine ⟨h.1, h.2.1, h.2.2.imp id ?_⟩
  rintro ⟨g, o, e, hc⟩
  refine ⟨g, o, e, fun i hi => ?_⟩
  obtain ⟨x, hx, hj⟩ := hc i hi
  refine ⟨x, hx, fun j hj6 => ?_⟩
  rw [← hj j hj6]
  exact World.cell?_of_block (a := ⟨g, o + i * 6 + j, none⟩) (k.block g (World.block_lt_of_cell? w _ (hj j hj6)) (fun e => e))
theorem size43 : (Tryz.prog.info? 43).map (·.size) = some 6 := by kernel_rfl
theorem under43 : ∃ d, Tryz.prog.underlying 43 = some d ∧ d.isRow = true := ⟨_, Tryz.underlying43, rfl⟩
theorem load43_at {w : World} {g o : Nat} {x : Ac} (h : ∀ j, j < 6 → w.cell? ⟨g, o + j, none⟩ = some (acC x j)) : (Instr.loadAt 43 (.pointer (some ⟨g, o, none⟩))).run Tryz.prog w = .ok (.agg (acA x)) w := by
  obtain ⟨t, h1, h2⟩ := under43
  have := run_loadAt_mid (P := Tryz.prog) w g o 43 (acA x).toList t (fun j v hv => by
    have hj : j < 6 := by have := (List.getElem?_eq_some_iff.1 hv).1; simpa [acA] using this
    rw [h j hj, ← hv]
    rcases (by omega : j = 0 ∨ j = 1 ∨ j = 2 ∨ j = 3 ∨ j = 4 ∨ j = 5) with rfl | rfl | rfl | rfl | rfl | rfl <;> rfl) h1 h2 (by rw [size43]; rfl)
  simpa using this
theorem zer_b8 (n : Nat) : B8 (List.replicate n 0) := fun x hx => by have := List.eq_of_mem_replicate hx; omega
section
variable {SV : (Nat → Prop) → World → Nat → Nat → Nat → List Int → (Nat → Option En) → Prop}
set_option maxRecDepth 100000 in
set_option maxHeartbeats 8000000 in
theorem plays_none (H : StOk SV) {w : World} {a : Option Addr} {len c : Nat} {cp : Int} (first : ByteArray) (h : ¬ (1 ≤ cp ∧ cp ≤ 512)) :
    Calls Tryz.prog 5 #[.int .i64 cp, .string first, .slice a len c] w fun e w' => e = .returned (.bool true) ∧ Keep (fun _ => False) w w' := by
  have hA := awake25 H w
  have hN := fun w => new_no w h
  clear h
  go_enter Tryz.func5, Tryz.ntmps5
  go_wp2_with fail
  refine hA.mono ?_
  rintro e w1 ⟨rfl, k1⟩
  have hN1 := hN w1
  clear hA hN
  go_wp2_with fail
  refine hN1.mono ?_
  rintro e w2 ⟨rfl, k2⟩
  have hK : RowKit.Hid (Keep (fun _ => False) w w2) := k1.trans k2
  clear hN1 k1 k2
  go_wp2_with fail
  go_ret
  exact ⟨rfl, hK⟩
set_option maxRecDepth 100000 in
set_option maxHeartbeats 8000000 in
theorem plays_far (H : StOk SV) {w : World} {a : Option Addr} {len c N : Nat} (first : ByteArray) (h : 1 ≤ N ∧ N ≤ 512) (hb : 64 < N ∨ 25 < len) :
    Calls Tryz.prog 5 #[.int .i64 (N : Int), .string first, .slice a len c] w fun e w' => e = .returned (.bool true) ∧ Keep (fun _ => False) w w' := by
  have hA := awake25 H w
  have hN := fun w => new_yes w h.1 h.2
  clear h
  by_cases c1 : (N : Int) > 64
  · have d1 : decide ((N : Int) > 64) = true := decide_eq_true c1
    clear hb
    go_enter Tryz.func5, Tryz.ntmps5
    go_wp2_with fail
    refine hA.mono ?_
    rintro e w1 ⟨rfl, k1⟩
    have hN1 := hN w1
    clear hA hN
    go_wp2_with fail
    refine hN1.mono ?_
    rintro e w2 ⟨p, S, rfl, -, -, k2⟩
    have hK : RowKit.Hid (Keep (fun _ => False) w w2) := k1.trans k2
    clear hN1 k1 k2
    go_wp2_with fail
    go_ret
    exact ⟨rfl, hK⟩
  · have d1 : decide ((N : Int) > 64) = false := decide_eq_false c1
    have c2 : (len : Int) > 25 := by omega
    have d2 : decide ((len : Int) > 25) = true := decide_eq_true c2
    clear hb
    go_enter Tryz.func5, Tryz.ntmps5
    go_wp2_with fail
    refine hA.mono ?_
    rintro e w1 ⟨rfl, k1⟩
    have hN1 := hN w1
    clear hA hN
    go_wp2_with fail
    refine hN1.mono ?_
    rintro e w2 ⟨p, S, rfl, -, -, k2⟩
    have hK : RowKit.Hid (Keep (fun _ => False) w w2) := k1.trans k2
    clear hN1 k1 k2
    go_wp2_with fail
    go_ret
    exact ⟨rfl, hK⟩
set_option maxRecDepth 100000 in
set_option maxHeartbeats 16000000 in
theorem plays_main (H : StOk SV) {w : World} {a : Option Addr} {len c N : Nat} (first : ByteArray) (h : 1 ≤ N ∧ N ≤ 64) (hb : len ≤ 25) (hac : Acs w a len c) :
    Calls Tryz.prog 5 #[.int .i64 (N : Int), .string first, .slice a len c] w fun e w' => e = .returned (.bool true) ∧ Keep (fun _ => False) w w' := by
  have hA := awake25 H w
  have hN := fun w => new_yes w h.1 (by omega : N ≤ 512)
  have hac' : RowKit.Hid (Acs w a len c ∧ len ≤ 25) := ⟨hac, hb⟩
  have hok : okR N (0 : Nat) N = true := okR_iff.2 ⟨by omega, by omega, by omega⟩
  have hNb : RowKit.Hid (1 ≤ N ∧ N ≤ 64) := h
  have hl0 : RowKit.Hid ((List.replicate (N * 32) (0 : Int)).length = N * 32) := List.length_replicate
  obtain ⟨l1, hl1⟩ : ∃ l1, l1 = wrL (List.replicate (N * 32) 0) 0 N (nums first) := ⟨_, rfl⟩
  have hlen1 : RowKit.Hid (l1.length = N * 32 ∧ B8 l1) := by
    rw [hl1]
    exact ⟨by rw [wrL_len (by rw [List.length_replicate]; omega), List.length_replicate], wrL_b8 (zer_b8 _) (nums_b8 _)⟩
  have hWA := fun {w : World} {p g cap : Nat} (hA : Arr w p g cap (List.replicate (N * 32) 0)) => write_yes hA hl0.out (by omega : N ≤ 512) hok first
  have hRN := fun w => rnew17 (n := N) (by omega) w
  have hRW := fun w => rwrite17_yes (l := List.replicate (N * 32) 0) (d := first) hl0.out (by omega : N ≤ 512) hok w
  rw [← hl1] at hRW
  rw [← hl1] at hWA
  obtain ⟨T0, hT0⟩ : ∃ T, T = strOfNums (List.replicate (N * 32) (0 : Int)) := ⟨_, rfl⟩
  obtain ⟨T, hT⟩ : ∃ T, T = strOfNums l1 := ⟨_, rfl⟩
  rw [← hT0] at hRN hRW
  rw [← hT] at hRW
  have hWA : RowKit.Hid (∀ {w : World} {p g cap : Nat}, Arr w p g cap (List.replicate (N * 32) 0) → Calls Tryz.prog 17 #[Ptr p, .int .i64 0, .int .i64 (N : Int), .string first] w fun e w' => e = .returned (.int .i64 0) ∧ Arr w' p g cap l1 ∧ Keep (fun k => k = g) w w') := hWA
  have hRN : RowKit.Hid (∀ w, Calls Tryz.prog 19 #[.int .i64 (N : Int)] w fun e w' => e = .returned (.string T0) ∧ Keep (fun _ => False) w w') := hRN
  have hRW : RowKit.Hid (∀ w, Calls Tryz.prog 18 #[.string T0, .int .i64 0, .int .i64 (N : Int), .string first] w fun e w' => e = .returned (.tuple #[.string T, .bool true]) ∧ Keep (fun _ => False) w w') := hRW
  have hT' : RowKit.Hid (T = strOfNums l1) := hT
  have c1 : ¬ (N : Int) > 64 := by omega
  have d1 : decide ((N : Int) > 64) = false := decide_eq_false c1
  have c2 : ¬ (len : Int) > 25 := by omega
  have d2 : decide ((len : Int) > 25) = false := decide_eq_false c2
  clear hac hb h hok hl0 hl1 hT0 hT
  go_enter Tryz.func5, Tryz.ntmps5
  go_wp2_with fail
  refine hA.mono ?_
  rintro e w1 ⟨rfl, k1⟩
  have hN1 := hN w1
  clear hA hN
  go_wp2_with fail
  refine hN1.mono ?_
  rintro e w2 ⟨p, S, rfl, ⟨g, cap, hAr, hS⟩, hlo, k2⟩
  have hp : RowKit.Hid (w.heap.size ≤ p ∧ w.heap.size ≤ g) := ⟨Nat.le_trans k1.size (hlo p ((hS p).2 (Or.inl rfl))), Nat.le_trans k1.size (hlo g ((hS g).2 (Or.inr rfl)))⟩
  have hK : RowKit.Hid (Keep (fun _ => False) w w2) := k1.trans k2
  have hW := hWA.out hAr
  clear hN1 k1 k2 hlo hS hAr hWA
  go_wp2_with fail
  refine hW.mono ?_
  rintro e w3 ⟨rfl, hA3, k3⟩
  have hA3' : RowKit.Hid (Arr w3 p g cap l1) := hA3
  have hK3 : RowKit.Hid (Keep (fun _ => False) w w3) := hK.out.next k3 (fun x hx e => by have := hp.out.2; omega)
  have hR1 := hRN.out w3
  clear hW hA3 k3 hK c1 d1 c2 d2 hRN
  go_wp2_with fail
  refine hR1.mono ?_
  rintro e w4 ⟨rfl, k4⟩
  have hR2 := hRW.out w4
  clear hR1 hRW
  go_wp2_with fail
  refine hR2.mono ?_
  rintro e w5 ⟨rfl, k5⟩
  have k45 := k4.trans k5
  have hA5 : RowKit.Hid (Arr w5 p g cap l1) := hA3'.out.keep k45 (fun e => e) (fun e => e)
  have hK5 : RowKit.Hid (Keep (fun _ => False) w w5) := hK3.out.trans k45
  clear hR2 k4 k5 k45 hA3' hK3
  by_cases c9 : (N : Int) < 9
  · have d9 : decide ((N : Int) < 9) = true := decide_eq_true c9
    have hO := H.open_no hA5.out hlen1.out.1 (by omega)
    clear hA5 hlen1 hT' hNb hac' hp
    go_wp2_with fail
    refine hO.mono ?_
    rintro e w6 ⟨rfl, k6⟩
    have hK6 : RowKit.Hid (Keep (fun _ => False) w w6) := hK5.out.trans k6
    clear hO k6 hK5
    go_wp2_with fail
    go_ret
    exact ⟨rfl, hK6⟩
  · have d9 : decide ((N : Int) < 9) = false := decide_eq_false c9
    have hN9 : RowKit.Hid (9 ≤ N ∧ N ≤ 512) := by have := hNb.out; show _ ∧ _; omega
    have hO := vf_open H (w0 := w) hA5.out hp.out hK5.out hlen1.out.1 hN9.out
    clear hA5 hp hK5 hNb
    go_wp2_with fail
    refine hO.mono ?_
    rintro e w6 ⟨q, rfl, V6, -⟩
    have hte := tells25 H V6 (lst_plc N l1).symm
    have hsh := fun w => shadowed25 hlen1.out.2 hlen1.out.1 hN9.out w
    rw [← hT'.out] at hte hsh
    have V6' : RowKit.Hid (Vf SV (fun _ => False) w w6 q p N l1 (plc N l1)) := V6
    clear hO V6
    go_wp2_with fail
    refine hte.mono ?_
    rintro e w7 ⟨rfl, k7⟩
    have V7 : RowKit.Hid (Vf SV (fun _ => False) w w7 q p N l1 (plc N l1)) := V6'.out.more H k7
    have hs7 := hsh w7
    obtain ⟨B, hB⟩ : ∃ B, B = decide (¬ cntE N l1 8 = (volL N l1).length) := ⟨_, rfl⟩
    rw [← hB] at hs7
    have hB' : RowKit.Hid (B = decide (¬ cntE N l1 8 = (volL N l1).length)) := hB
    clear hte V6' k7 hsh hB c9 d9
    go_wp2_with fail
    refine hs7.mono ?_
    rintro e w8 ⟨rfl, k8⟩
    have V8 : RowKit.Hid (Vf SV (fun _ => False) w w8 q p N l1 (plc N l1)) := V7.out.more H k8
    clear hs7 V7 k8
    cases B with
    | true =>
      have hK8 : RowKit.Hid (Keep (fun _ => False) w w8) := V8.out.kp
      clear V8 hB' hlen1 hT' hN9 hac'
      go_wp2_with fail
      go_ret
      exact ⟨rfl, hK8⟩
    | false =>
      have hns : RowKit.Hid (Dp N l1 (plc N l1)) := by
        have h1 := of_decide_eq_false hB'.out.symm
        exact plc_dp hlen1.out.2 hlen1.out.1 hN9.out (ns_of (by simpa using h1))
      clear hB' hlen1 hN9
      go_wp2_with fail
      go_loopw [9, 11, 12] (fun tv sv iv wx => ∃ (i q : Nat) (l : List Int) (s : Nat → Option En) (X : ByteArray), tv = .string X ∧ sv = Ptr q ∧ iv = .int .i64 (i : Int) ∧ RowKit.Hid (i ≤ len ∧ X = strOfNums l ∧ Dp N l s) ∧ RowKit.Hid (Vf SV (fun _ => False) w wx q p N l s)) (fun _ _ iv _ => len - (intOf iv).toNat)
      case atStart => exact ⟨0, q, l1, plc N l1, T, rfl, rfl, rfl, ⟨by omega, hT'.out, hns.out⟩, V8⟩
      case round =>
        clear V8 hns hT'
        obtain ⟨i, q, l, s, X, rfl, rfl, rfl, hi, hV⟩ := hrel
        by_cases him : i = len
        · have hge : ¬ (i : Int) < len := by omega
          have hK : RowKit.Hid (Keep (fun _ => False) w wr) := hV.out.kp
          clear hi hV hac' him
          go_wp2_with fail
          go_ret
          exact ⟨rfl, hK⟩
        · have hlt : (i : Int) < len := by have := hi.out.1; omega
          have hacr := hac'.out.1
          rcases hacr.2.2 with h0 | ⟨ga, oa, ea, hc⟩
          · exfalso; have := hi.out.1; omega
          · obtain ⟨x, hx, hcw⟩ := hc i (by have := hi.out.1; omega)
            have hlk : ∀ w', Keep (fun _ => False) w w' → ∀ j, j < 6 → w'.cell? ⟨ga, oa + i * 6 + j, none⟩ = some (acC x j) := fun w' k j hj => by
              rw [← hcw j hj]
              exact World.cell?_of_block (a := ⟨ga, oa + i * 6 + j, none⟩) (k.block ga (World.block_lt_of_cell? w _ (hcw j hj)) (fun e => e))
            have hcx := hlk wr hV.out.kp
            have hlk : RowKit.Hid (∀ w', Keep (fun _ => False) w w' → (Instr.loadAt 43 (.pointer (some ⟨ga, oa + i * 6, none⟩))).run Tryz.prog w' = .ok (.agg (acA x)) w') := fun w' k => load43_at (hlk w' k)
            have z0 : wr.cell? ⟨ga, oa + i * 6, none⟩ = some (.int .i64 x.op) := hcx 0 (by omega)
            have hld := load43_at hcx
            have hil : RowKit.Hid (i < len ∧ len ≤ 25) := ⟨by have := hi.out.1; omega, hac'.out.2⟩
            have hdi : IntKind.i64.wrap ((i : Int) + 1) = ((i + 1 : Nat) : Int) := by rw [show (i : Int) + 1 = ((i + 1 : Nat) : Int) by omega]; exact wrapI (by omega) (by have := hil.out; omega)
            have hXd : RowKit.Hid (X = strOfNums l ∧ Dp N l s) := hi.out.2
            have hx' : RowKit.Hid x.Ok := hx
            have hea : RowKit.Hid (a = some ⟨ga, oa, none⟩) := ea
            clear hi him hc hcx hacr hx hcw
            by_cases c6 : x.op = 6
            · have d6 : (x.op == 6) = true := by simp [c6]
              have hO := vf_again H hV.out
              clear c6 hld hac' hea hlk
              subst ea
              go_wp2_with fail
              refine hO.mono ?_
              rintro e w2 ⟨q2, rfl, V2, -⟩
              have hte := tells25 H V2 (lst_plc N l).symm
              rw [← hXd.out.1] at hte
              have V2' : RowKit.Hid (Vf SV (fun _ => False) w w2 q2 p N l (plc N l)) := V2
              clear hO V2 hV z0 d6
              go_wp2_with fail
              refine hte.mono ?_
              rintro e w3 ⟨rfl, k3⟩
              have V3 : RowKit.Hid (Vf SV (fun _ => False) w w3 q2 p N l (plc N l)) := V2'.out.more H k3
              have hin : RowKit.Hid (i + 1 ≤ len ∧ X = strOfNums l ∧ Dp N l (plc N l)) := ⟨by have := hil.out; omega, hXd.out.1, by have h5 := hXd.out.2; exact plc_dp h5.b8 h5.len h5.N9 h5.pl.ns⟩
              clear hte V2' k3 hXd
              go_wp2_with fail
              go_roundw
              case rel => exact ⟨i + 1, q2, l, plc N l, X, rfl, rfl, rfl, hin, V3⟩
              case measure => have := hil.out; simp [intOf]; omega
            · have d6 : (x.op == 6) = false := by simp [c6]
              have hst := step25 H hV.out x hx'.out
              have hso := step_own hXd.out.2 x
              have how := fun w => own25 hXd.out.2.b8 hXd.out.2.len hXd.out.2.N9 x hx'.out w
              rw [hso.1, ← hXd.out.1] at how
              obtain ⟨P, hP⟩ : ∃ P, P = stepS N l s x := ⟨_, rfl⟩
              rw [← hP] at hst hso how
              obtain ⟨⟨l', s', er⟩, rd⟩ := P
              have how : ∀ w, Calls Tryz.prog 23 #[.string X, .agg (acA x)] w fun e w' => e = .returned (.tuple #[.string (strOfNums l'), .string (strOfNums rd), .int .i64 er]) ∧ Keep (fun _ => False) w w' := how
              have hst : Calls Tryz.prog 22 #[Ptr q, .agg (acA x)] wr fun e w' => e = .returned (.tuple #[.string (strOfNums rd), .int .i64 er]) ∧ Vf SV (fun _ => False) w w' q p N l' s' ∧ Keep (Oth (fun _ => False) w) wr w' := hst
              have hdp : RowKit.Hid (Dp N l' s') := hso.2
              obtain ⟨Y, hY⟩ : ∃ Y, RowKit.Hid (Y = strOfNums l') := ⟨_, rfl⟩
              obtain ⟨RD, hRD⟩ : ∃ Y, RowKit.Hid (Y = strOfNums rd) := ⟨_, rfl⟩
              rw [← hRD.out] at hst how
              rw [← hY.out] at how
              have how : RowKit.Hid (∀ w, Calls Tryz.prog 23 #[.string X, .agg (acA x)] w fun e w' => e = .returned (.tuple #[.string Y, .string RD, .int .i64 er]) ∧ Keep (fun _ => False) w w') := how
              generalize acA x = AX at *
              clear hP hso hXd hV c6 hx'
              subst ea
              go_wp2_with (guard_target =~ wpList _ _ _ (Oper.mk _ (Op.load 43 _) _ _ _ _ :: _) _ _; refine wpList_load_run (by rfl) 43 (.tmp 110) rfl (by rfl) hld ?_)
              refine hst.mono ?_
              rintro e w2 ⟨rfl, V2, -⟩
              have hld2 := hlk.out w2 V2.kp
              have how2 := how.out w2
              have V2' : RowKit.Hid (Vf SV (fun _ => False) w w2 q p N l' s') := V2
              clear hst V2 how hld hlk z0 d6
              go_wp2_with (guard_target =~ wpList _ _ _ (Oper.mk _ (Op.load 43 _) _ _ _ _ :: _) _ _; refine wpList_load_run (by rfl) 43 (.tmp 119) rfl (by rfl) hld2 ?_)
              refine how2.mono ?_
              rintro e w3 ⟨rfl, k3⟩
              have V3 := V2'.out.more H k3
              have hct := vf_cont H V3
              rw [← hY.out] at hct
              have V3' : RowKit.Hid (Vf SV (fun _ => False) w w3 q p N l' s') := V3
              clear how2 V2' k3 V3 hld2
              go_wp2_with fail
              refine hct.mono ?_
              rintro e w4 ⟨rfl, ew⟩
              subst ew
              have hte := tells25 H V3'.out hdp.out.vol
              rw [← hY.out] at hte
              clear hct
              go_wp2_with fail
              refine hte.mono ?_
              rintro e w5 ⟨rfl, k5⟩
              have V5 : RowKit.Hid (Vf SV (fun _ => False) w w5 q p N l' s') := V3'.out.more H k5
              have hin : RowKit.Hid (i + 1 ≤ len ∧ Y = strOfNums l' ∧ Dp N l' s') := ⟨by have := hil.out; omega, hY.out, hdp.out⟩
              clear hte V3' k5 hdp hY
              go_wp2_with fail
              go_roundw
              case rel => exact ⟨i + 1, q, l', s', Y, rfl, rfl, rfl, hin, V5⟩
              case measure => have := hil.out; simp [intOf]; omega
theorem bel {f : FuncId} {vs : Array Value} {v : Value} {w : World} (h : Calls Tryz.prog f vs w fun e w' => e = .returned v ∧ Keep (fun _ => False) w w') : Calls Tryz.prog f vs w fun e w' => e = .returned v ∧ Below w.heap.size w w' :=
  h.mono (by rintro e w' ⟨rfl, k⟩; exact ⟨rfl, k.below (Nat.le_refl _) (fun _ e => e.elim)⟩)
theorem plays_law (H : StOk SV) {w : World} {a : Option Addr} {len c : Nat} {cp : Int} (first : ByteArray) (hac : Acs w a len c) :
    Calls Tryz.prog 5 #[.int .i64 cp, .string first, .slice a len c] w fun e w' => e = .returned (.bool true) ∧ Below w.heap.size w w' := by
  refine bel ?_
  by_cases h : 1 ≤ cp ∧ cp ≤ 512
  · obtain ⟨N, rfl⟩ : ∃ n : Nat, cp = n := ⟨cp.toNat, by omega⟩
    by_cases hb : 64 < N ∨ 25 < len
    · exact plays_far H first (by omega) hb
    · exact plays_main H first (by omega) (by omega) hac
  · exact plays_none H first h
set_option maxRecDepth 100000 in
set_option maxHeartbeats 2000000 in
theorem names_law (H : StOk SV) {w : World} (t : ByteArray) (ht : t.size ≤ 9223372036854775807) : Calls Tryz.prog 4 #[.string t] w fun e w' => e = .returned (.bool true) ∧ Below w.heap.size w w' := by
  refine bel ?_
  have hA := awake25 H w
  have hG := H.good t ht
  have hR := fun w => rgood25 t ht w
  generalize goodS (bs t) = B at *
  clear ht
  go_enter Tryz.func4, Tryz.ntmps4
  go_wp2_with fail
  refine hA.mono ?_
  rintro e w1 ⟨rfl, k1⟩
  have hG1 := hG w1
  clear hA hG
  go_wp2_with fail
  refine hG1.mono ?_
  rintro e w2 ⟨rfl, k2⟩
  have hK : RowKit.Hid (Keep (fun _ => False) w w2) := k1.trans k2
  have hR2 := hR w2
  clear hG1 k1 k2 hR
  go_wp2_with fail
  refine hR2.mono ?_
  rintro e w3 ⟨rfl, e3⟩
  subst e3
  clear hR2
  cases B
  · go_wp2_with fail
    go_ret
    exact ⟨rfl, hK⟩
  · go_wp2_with fail
    go_ret
    exact ⟨rfl, hK⟩
end
end Tg
end Go.Proofs.YtjgnajopomadpaaGreat
