/-
  VolWhole, given what a store's calls answer.
-/
import Derived.Test.YtjgnajopomadpaaGreatRn
namespace Go.Proofs.YtjgnajopomadpaaGreat
open Go.ChangeShapes Go.WideShapes Go.ChangeAt Go.RowKit
namespace Tg
open Qm Crc
theorem wpList_conv_run {P : Program} {w : World} {ops : Array Oper} {rest : List Oper} {o : Oper} {a : Act} {Q : Exit → Act → World → Prop}
    (hw : Region.wanted o (yielded ops a.tmps) = true) (s t : TypeId) (x : Operand) (hop : o.op = Op.convert s t x) {v1 v' : Value} {w' : World} (hx : a.eval x = v1) (hrun : (convert s t v1).run P w = .ok v' w')
    (hK : wpList P ops Q rest (a.put o.dst v') w') : wpList P ops Q (o :: rest) a w := by
  refine BigFrame.wpList_want hw fun K hK' => ?_
  unfold Oper.wp
  simp [execOp, hop, hx, hrun, Result.andThen]
  exact hK' _ _ hK
theorem gcFree (args : Array Value) (w : World) : (callFunc 26 args).run Tryz.prog w = .ok (.enter 26 args) w := enters Tryz.func26 (by kernel_rfl) (by kernel_rfl) args w
theorem gcVols (args : Array Value) (w : World) : (callFunc 25 args).run Tryz.prog w = .ok (.enter 25 args) w := enters Tryz.func25 (by kernel_rfl) (by kernel_rfl) args w
theorem zero_vol (N : Int) {l : List Int} {n : Nat} (hl : l = List.replicate (n * 32) 0) (hn : 8 ≤ n) : ∀ k, k ≤ 8 → volK N l k = []
  | 0, _ => rfl
  | k + 1, hk => by
    have he : entL N l k = none := by
      unfold entL
      have hr : rdL l k 1 = List.replicate 32 0 := by
        apply List.ext_getElem?
        intro j
        rw [rdL_at, hl]
        by_cases c : j < 32
        · rw [if_pos (by omega), List.getElem?_replicate, List.getElem?_replicate, if_pos (by omega), if_pos c]
        · rw [if_neg (by omega), List.getElem?_replicate, if_neg c]
      rw [hr, if_neg]
      unfold entOk
      rw [show (List.replicate 32 (0 : Int)).getD 1 0 = 0 from rfl]
      simp
    show vstep (entL N l k) (volK N l k) = []
    rw [he, zero_vol N hl hn k (by omega)]
    rfl
theorem zero_plc {N : Nat} (hN : 9 ≤ N) : plc N (List.replicate (N * 32) 0) = st [] 0 0 := by
  funext j
  unfold plc
  have : volL N (List.replicate (N * 32) 0) = [] := zero_vol N rfl (by omega) 8 (Nat.le_refl _)
  rw [this]
  unfold st
  rw [if_neg (by omega)]
  rfl
/-- How many sectors a number asks for. -/
def nN (v : Int) : Nat := 1 + (bits .and .i64 v 3).toNat
theorem nN_bd (v : Int) : 1 ≤ nN v ∧ nN v ≤ 4 ∧ (1 : Int) + bits .and .i64 v 3 = nN v := by
  obtain ⟨j, hj, e⟩ := and3 v
  unfold nN
  rw [e]
  omega
/-- What is so behind the first i numbers. -/
structure Wh (N : Nat) (fl : Nat → Int) (cf : Nat → Nat → List Int) (i : Nat) (L : List Mk) (l : List Int) : Prop where
  wf : Wf N L
  lt : ∀ m ∈ L, m.i < i ∧ m.n = nN (fl m.i)
  le : L.length ≤ i
  by' : By cf L l
section
variable {N : Nat} {fl : Nat → Int} {cf : Nat → Nat → List Int} {i n : Nat} {L : List Mk} {l : List Int}
theorem Wh.skip (h : Wh N fl cf i L l) : Wh N fl cf (i + 1) L l := ⟨h.wf, fun m hm => ⟨Nat.lt_succ_of_lt (h.lt m hm).1, (h.lt m hm).2⟩, Nat.le_succ_of_le h.le, h.by'⟩
theorem Wh.next {l' : List Int} (h : Wh N fl cf i L l) (hi : i < 6) (h5 : L.length ≤ 5) (hn : n = nN (fl i)) (hf : endP 8 L + n ≤ N) (hk : ∀ m ∈ L, rdL l' m.f m.n = rdL l m.f m.n) (hc : rdL l' (endP 8 L) n = cf i n) : Wh N fl cf (i + 1) (L ++ [⟨i, endP 8 L, n⟩]) l' := by
  refine ⟨h.wf.add hi (fun m hm => (h.lt m hm).1) h5 (by have := nN_bd (fl i); omega) hf, fun m hm => ?_, by rw [List.length_append]; have := h.le; simp; omega, fun m hm => ?_⟩
  · rcases List.mem_append.1 hm with hm | hm
    · exact ⟨Nat.lt_succ_of_lt (h.lt m hm).1, (h.lt m hm).2⟩
    · have : m = ⟨i, endP 8 L, n⟩ := by simpa using hm
      rw [this]
      exact ⟨Nat.lt_succ_self i, hn⟩
  · rcases List.mem_append.1 hm with hm | hm
    · rw [hk m hm]
      exact h.by' m hm
    · have : m = ⟨i, endP 8 L, n⟩ := by simpa using hm
      rw [this]
      exact hc
theorem Wh.next0 (h : Wh N fl cf i L l) (hl : l.length = N * 32) (hN : 8 ≤ N) (hi : i < 6) (h5 : L.length ≤ 5) (hn : n = nN (fl i)) (hf : endP 8 L + n ≤ N) (be : List Int) (hcf : cf i n = List.replicate (n * 32) 0) : Wh N fl cf (i + 1) (L ++ [⟨i, endP 8 L, n⟩]) (wrL (wrL l (endP 8 L) n []) L.length 1 be) := by
  have h8 := endP_le 8 L
  have hl2 : (wrL l (endP 8 L) n []).length = N * 32 := by rw [wrL_len (by rw [hl]; omega)]; exact hl
  refine h.next hi h5 hn hf (fun m hm => ?_) ?_
  · have := cont_mem 8 L h.wf.c m hm
    rw [rd_other (by rw [hl2]; omega) (by omega), rd_other (by rw [hl]; omega) (by omega)]
  · rw [rd_other (by rw [hl2]; omega) (by omega), rd_wr (by rw [hl]; omega), padL_nil, hcf]
theorem Wh.next1 (h : Wh N fl cf i L l) (hl : l.length = N * 32) (hN : 8 ≤ N) (hi : i < 6) (h5 : L.length ≤ 5) (hn : n = nN (fl i)) (hf : endP 8 L + n ≤ N) (be d : List Int) (hcf : cf i n = padL (n * 32) d) : Wh N fl cf (i + 1) (L ++ [⟨i, endP 8 L, n⟩]) (wrL (wrL (wrL l (endP 8 L) n []) L.length 1 be) (endP 8 L) n d) := by
  have h8 := endP_le 8 L
  have hl2 : (wrL l (endP 8 L) n []).length = N * 32 := by rw [wrL_len (by rw [hl]; omega)]; exact hl
  have hl3 : (wrL (wrL l (endP 8 L) n []) L.length 1 be).length = N * 32 := by rw [wrL_len (by rw [hl2]; omega)]; exact hl2
  refine h.next hi h5 hn hf (fun m hm => ?_) ?_
  · have := cont_mem 8 L h.wf.c m hm
    rw [rd_other (by rw [hl3]; omega) (by omega), rd_other (by rw [hl2]; omega) (by omega), rd_other (by rw [hl]; omega) (by omega)]
  · rw [rd_wr (by rw [hl3]; omega), hcf]
end
section
variable {SV : (Nat → Prop) → World → Nat → Nat → Nat → List Int → (Nat → Option En) → Prop}
set_option maxRecDepth 100000 in
set_option maxHeartbeats 8000000 in
theorem whole_no (H : StOk SV) {w : World} {al ad : Option Addr} {len c lend cd : Nat} {cp : Int} (hi : I64 cp) (h : ¬ (9 ≤ cp ∧ cp ≤ 64) ∨ 6 < len) :
    Calls Tryz.prog 7 #[.int .i64 cp, .slice al len c, .slice ad lend cd] w fun e w' => e = .returned (.bool true) ∧ Keep (fun _ => False) w w' := by
  have hA := awake25 H w
  by_cases hr : 1 ≤ cp ∧ cp ≤ 512
  · obtain ⟨N, rfl⟩ : ∃ n : Nat, cp = n := ⟨cp.toNat, by omega⟩
    have hN := fun w => new_yes w (n := N) (by omega) (by omega)
    by_cases c1 : (N : Int) < 9
    · have d1 : decide ((N : Int) < 9) = true := decide_eq_true c1
      clear h hr hi
      go_enter Tryz.func7, Tryz.ntmps7
      go_wp2_with fail
      refine hA.mono ?_
      rintro e w1 ⟨rfl, k1⟩
      have hN1 := hN w1
      clear hA hN
      go_wp2_with fail
      refine hN1.mono ?_
      rintro e w2 ⟨p, S, rfl, -, -, k2⟩
      have hK : RowKit.Hid (Keep (fun _ => False) w w2) := k1.trans k2
      clear hN1 k1 k2
      go_wp2_with fail
      go_ret
      exact ⟨rfl, hK⟩
    · have d1 : decide ((N : Int) < 9) = false := decide_eq_false c1
      by_cases c2 : (N : Int) > 64
      · have d2 : decide ((N : Int) > 64) = true := decide_eq_true c2
        clear h hr hi
        go_enter Tryz.func7, Tryz.ntmps7
        go_wp2_with fail
        refine hA.mono ?_
        rintro e w1 ⟨rfl, k1⟩
        have hN1 := hN w1
        clear hA hN
        go_wp2_with fail
        refine hN1.mono ?_
        rintro e w2 ⟨p, S, rfl, -, -, k2⟩
        have hK : RowKit.Hid (Keep (fun _ => False) w w2) := k1.trans k2
        clear hN1 k1 k2
        go_wp2_with fail
        go_ret
        exact ⟨rfl, hK⟩
      · have d2 : decide ((N : Int) > 64) = false := decide_eq_false c2
        have c3 : (len : Int) > 6 := by omega
        have d3 : decide ((len : Int) > 6) = true := decide_eq_true c3
        clear h hr hi
        go_enter Tryz.func7, Tryz.ntmps7
        go_wp2_with fail
        refine hA.mono ?_
        rintro e w1 ⟨rfl, k1⟩
        have hN1 := hN w1
        clear hA hN
        go_wp2_with fail
        refine hN1.mono ?_
        rintro e w2 ⟨p, S, rfl, -, -, k2⟩
        have hK : RowKit.Hid (Keep (fun _ => False) w w2) := k1.trans k2
        clear hN1 k1 k2
        go_wp2_with fail
        go_ret
        exact ⟨rfl, hK⟩
  · have hN := fun w => new_no w hr
    clear h hr hi
    go_enter Tryz.func7, Tryz.ntmps7
    go_wp2_with fail
    refine hA.mono ?_
    rintro e w1 ⟨rfl, k1⟩
    have hN1 := hN w1
    clear hA hN
    go_wp2_with fail
    refine hN1.mono ?_
    rintro e w2 ⟨rfl, k2⟩
    have hK : RowKit.Hid (Keep (fun _ => False) w w2) := k1.trans k2
    clear hN1 k1 k2
    go_wp2_with fail
    go_ret
    exact ⟨rfl, hK⟩
set_option maxRecDepth 100000 in
set_option maxHeartbeats 32000000 in
theorem whole_main (H : StOk SV) {w : World} {al ad : Option Addr} {len c lend cd N : Nat} {fl : Nat → Int} {td : Nat → ByteArray} (h : 9 ≤ N ∧ N ≤ 64) (hb : len ≤ 6) (hal : Ins w al len c fl) (had : Txs w ad lend cd td) :
    Calls Tryz.prog 7 #[.int .i64 (N : Int), .slice al len c, .slice ad lend cd] w fun e w' => e = .returned (.bool true) ∧ Keep (fun _ => False) w w' := by
  have hA := awake25 H w
  have hN := fun w => new_yes w (by omega : 1 ≤ N) (by omega : N ≤ 512)
  have hal' : RowKit.Hid (Ins w al len c fl ∧ len ≤ 6) := ⟨hal, hb⟩
  have had' : RowKit.Hid (Txs w ad lend cd td) := had
  have hNb : RowKit.Hid (9 ≤ N ∧ N ≤ 64) := h
  have hts : RowKit.Hid ((∀ {i : Nat}, i < lend → ∃ g o, ad = some ⟨g, o, none⟩ ∧ ∀ i, i < lend → w.cell? ⟨g, o + i, none⟩ = some (.string (td i))) ∧ ∀ i, i < lend → (td i).size ≤ 9223372036854775807) := by
    refine ⟨fun {i} hi => ?_, fun i hi => ?_⟩
    · rcases had.2.2 with h0 | ⟨g, o, e, hc⟩
      · omega
      · exact ⟨g, o, e, fun i hi => (hc i hi).1⟩
    · rcases had.2.2 with h0 | ⟨g, o, e, hc⟩
      · omega
      · exact (hc i hi).2
  have c0 : ¬ (N : Int) < 9 := by omega
  have d0 : decide ((N : Int) < 9) = false := decide_eq_false c0
  have c1 : ¬ (N : Int) > 64 := by omega
  have d1 : decide ((N : Int) > 64) = false := decide_eq_false c1
  have c2 : ¬ (len : Int) > 6 := by omega
  have d2 : decide ((len : Int) > 6) = false := decide_eq_false c2
  have hw8 := wrapI (x := (N : Int) - 8) (by omega) (by omega)
  obtain ⟨cf, hcf⟩ : ∃ z : Nat → Nat → List Int, RowKit.Hid (z = fun i n => if i < lend then padL (n * 32) (nums (td i)) else List.replicate (n * 32) 0) := ⟨_, rfl⟩
  clear hal had h hb
  go_enter Tryz.func7, Tryz.ntmps7
  go_wp2_with fail
  refine hA.mono ?_
  rintro e w1 ⟨rfl, k1⟩
  have hN1 := hN w1
  clear hA hN
  go_wp2_with fail
  refine hN1.mono ?_
  rintro e w2 ⟨p, S, rfl, ⟨g, cap, hAr, hS⟩, hlo, k2⟩
  have hp : w.heap.size ≤ p ∧ w.heap.size ≤ g := ⟨Nat.le_trans k1.size (hlo p ((hS p).2 (Or.inl rfl))), Nat.le_trans k1.size (hlo g ((hS g).2 (Or.inr rfl)))⟩
  have hO := vf_open H (w0 := w) hAr hp (k1.trans k2) List.length_replicate (by have := hNb.out; omega)
  rw [zero_plc hNb.out.1] at hO
  clear hN1 k1 k2 hlo hS hAr hp
  go_wp2_with fail
  clear c0 d0 c1 d1 c2 d2
  refine hO.mono ?_
  rintro e w4 ⟨q, rfl, V4, -⟩
  have V4' : RowKit.Hid (Md w w4 none 0 0 [] ∧ Vf SV (Bl none) w w4 q p N (List.replicate (N * 32) 0) (st [] 0 0)) := ⟨Md.nil w w4, V4.less (fun x hx => by cases hx)⟩
  have hW0 : RowKit.Hid (Wh N fl cf 0 [] (List.replicate (N * 32) 0)) := ⟨⟨trivial, by show 8 ≤ N; have := hNb.out; omega, fun m hm => (by cases hm), fun j k m m' _ h => (by cases h), by simp⟩, fun m hm => (by cases hm), by simp, fun m hm => (by cases hm)⟩
  clear hO V4
  go_wp2_with fail
  clear hw8
  go_loopw [10, 11, 12] (fun fv mv iv wx => ∃ (i k cm : Nat) (F : Int) (L : List Mk) (l : List Int) (am : Option Addr), fv = .int .i64 F ∧ mv = .slice am k cm ∧ iv = .int .i64 (i : Int) ∧ RowKit.Hid (i ≤ len ∧ F = (N : Int) - endP 8 L ∧ k = L.length ∧ Wh N fl cf i L l) ∧ RowKit.Hid (Md w wx am k cm (L.map (·.i)) ∧ Vf SV (Bl am) w wx q p N l (st L 0 0))) (fun _ _ iv _ => len - (intOf iv).toNat)
  case atStart => exact ⟨0, 0, 0, _, [], _, none, rfl, rfl, rfl, ⟨by omega, rfl, rfl, hW0.out⟩, V4'⟩
  case round =>
    clear V4' hW0
    obtain ⟨i, k, cm, F, L, l, am, rfl, rfl, rfl, hi, hM⟩ := hrel
    by_cases him : i = len
    · have hge : ¬ (i : Int) < len := by omega
      have hWh := hi.out.2.2.2
      have hNb' := hNb.out
      have hFv := hi.out.2.1
      have hfv : (N : Int) - 8 - lensF (lst (st L 0 0)) = F := by rw [hWh.wf.lens, hFv]; omega
      have hfr := vf_free H hM.out.2
      rw [hfv] at hfr
      have hL : RowKit.Hid (k = L.length ∧ Wf N L ∧ By cf L l ∧ (∀ m ∈ L, m.i < len ∧ m.n = nN (fl m.i)) ∧ k ≤ 6) := ⟨hi.out.2.2.1, hWh.wf, hWh.by', fun m hm => by have := hWh.lt m hm; rw [him] at this; exact this, by rw [hi.out.2.2.1]; exact hWh.wf.len6⟩
      have hMd := hM.out.1
      clear hfv hWh hi hFv hNb'
      go_wp2_with fail
      refine hfr.mono ?_
      rintro e w5 ⟨rfl, V5, k5⟩
      have M5 : RowKit.Hid (Md w w5 am k cm (L.map (·.i)) ∧ Vf SV (Bl am) w w5 q p N l (st L 0 0)) := ⟨own_keepA hMd k5 (fun _ _ e => e), V5⟩
      clear hfr V5 k5 hMd hM hge
      go_wp2_with fail
      go_loopw [15] (fun jv wx => ∃ (j : Nat) (l : List Int), jv = .int .i64 (j : Int) ∧ RowKit.Hid (j ≤ k ∧ By cf L l) ∧ RowKit.Hid (Md w wx am k cm (L.map (·.i)) ∧ Vf SV (Bl am) w wx q p N l (st L j 0))) (fun jv _ => k - (intOf jv).toNat)
      case atStart => exact ⟨0, l, rfl, ⟨by omega, hL.out.2.2.1⟩, M5⟩
      case round =>
        clear M5
        obtain ⟨j, l, rfl, hj, hM⟩ := hrel
        by_cases hjk : j = k
        · have hge : ¬ (j : Int) < k := by omega
          have hM3 : RowKit.Hid (Md w wr am k cm (L.map (·.i)) ∧ Vf SV (Bl am) w wr q p N l (st L k 0)) := by have := hM.out; rw [hjk] at this; exact this
          clear hM hj hcf hal' had' hts
          go_wp2_with fail
          clear hge hjk
          go_loopw [26] (fun jv wx => ∃ (j : Nat) (l : List Int), jv = .int .i64 (j : Int) ∧ RowKit.Hid (j ≤ k) ∧ RowKit.Hid (Md w wx am k cm (L.map (·.i)) ∧ Vf SV (Bl am) w wx q p N l (st L k j))) (fun jv _ => k - (intOf jv).toNat)
          case atStart => exact ⟨0, l, rfl, Nat.zero_le _, hM3⟩
          case round =>
            clear hM3
            obtain ⟨j, l, rfl, hj, hM⟩ := hrel
            by_cases hjk : j = k
            · have hge : ¬ (j : Int) < k := by omega
              have hN9 := hNb.out
              have hv : (N : Int) - 8 - lensF (lst (st L k k)) = (N : Int) - 8 := by
                have e0 := st_none L k
                rw [← hL.out.1] at e0
                rw [e0]
                simp [lensF]
              have hV0 : RowKit.Hid (Vf SV (Bl am) w wr q p N l (st L k k)) := by have := hM.out.2; rw [hjk] at this; exact this
              have cfr : RowKit.Hid (∀ w', Keep (fun _ => False) wr w' → Calls Tryz.prog 26 #[Ptr q] w' fun e w2 => e = .returned (.int .i64 ((N : Int) - 8)) ∧ Vf SV (Bl am) w w2 q p N l (st L k k) ∧ Keep (fun _ => False) w' w2) := fun w' hk => by
                have h := vf_free H (hV0.out.more H hk)
                rw [hv] at h
                exact h
              have cvo : RowKit.Hid (∀ w', Vf SV (Bl am) w w' q p N l (st L k k) → Calls Tryz.prog 25 #[Ptr q] w' fun e w2 => ∃ a c, e = .returned (.slice a 0 c) ∧ Keep (fun _ => False) w' w2) := fun w' hV => by
                refine (vf_vols H hV).mono ?_
                rintro e w2 ⟨a, c, n, rfl, hn, hw⟩
                have e0 := st_none L k
                rw [← hL.out.1] at e0
                rw [e0] at hn
                subst hn
                exact ⟨a, c, rfl, hw.keep⟩
              have hw8 : IntKind.i64.wrap ((N : Int) - 8) = (N : Int) - 8 := wrapI (by omega) (by omega)
              clear hj hM hv hN9 hjk hL
              have h1 := cfr.out wr (Keep.refl _ _)
              clear cfr
              go_wp2_with fail
              refine h1.mono ?_
              rintro e wc ⟨rfl, vc, kc⟩
              have h2 := cvo.out _ vc
              have hK0 : RowKit.Hid (Keep (fun _ => False) w wc) := vc.kp
              clear h1 vc kc cvo hge hV0
              go_wp2_with fail
              refine h2.mono ?_
              rintro e wd ⟨av, cv, rfl, kd⟩
              have hK : RowKit.Hid (Keep (fun _ => False) w wd) := hK0.out.trans kd
              clear h2 hK0 kd
              go_wp2_with fail
              go_ret
              exact ⟨rfl, hK.out⟩
            · have hjlt : (j : Int) < k := by have := hj.out; omega
              have hjl : RowKit.Hid (j + 1 ≤ k ∧ k ≤ 6) := ⟨by have := hj.out; omega, hL.out.2.2.2.2⟩
              obtain ⟨m, hm⟩ : ∃ m, L[j]? = some m := ⟨_, List.getElem?_eq_getElem (by have := hL.out.1; omega)⟩
              obtain ⟨gm, ea, z0⟩ := hM.out.1.at (i := m.i) (show (L.map (·.i))[j]? = some m.i by rw [List.getElem?_map, hm]; rfl)
              subst ea
              obtain ⟨i, mf, n⟩ := m
              dsimp only at z0
              have hmem := List.mem_of_getElem? hm
              have h6 : i < 6 := hL.out.2.1.i6 ⟨i, mf, n⟩ hmem
              obtain ⟨nw, hnw⟩ : ∃ z, RowKit.Hid (z = vn true i) := ⟨_, rfl⟩
              obtain ⟨l2, hl2⟩ : ∃ z, z = wrL l j 1 [] := ⟨_, rfl⟩
              have hds := vf_ds H hM.out.2
              have hdl : deleteS l (st L k j) nw = ⟨l2, st L k (j + 1), 0⟩ := by
                have hsp := hds.sp
                have hkl := hL.out.1
                rw [hkl] at hsp ⊢
                rw [hnw.out, hl2]
                exact hL.out.2.1.delete hsp hm
              have x2 : IntKind.i64.wrap (48 + (i : Int)) = ((48 + i : Nat) : Int) := by rw [show 48 + (i : Int) = ((48 + i : Nat) : Int) by omega]; exact wrapI (by omega) (by omega)
              have x3 : IntKind.u8.wrap ((48 + i : Nat) : Int) = ((48 + i : Nat) : Int) := by rw [IntKind.wrap_u8]; omega
              obtain ⟨I8, hI8⟩ : ∃ z : Int, z = ((48 + i : Nat) : Int) := ⟨_, rfl⟩
              rw [← hI8] at x2 x3
              have hcv := one_text wr (v := I8) ⟨by omega, by omega⟩
              have hct : (⟨#[119, 118]⟩ : ByteArray) ++ strOfNums [I8] = vn true i := by rw [hI8]; exact cat_wv
              have hsz : (strOfNums [I8]).size = 1 := by rw [strOfNums_size]; rfl
              rw [← hnw.out] at hct
              generalize strOfNums [I8] = t8 at *
              have KA : Keep (fun _ => False) wr (wr.alloc (.cells #[.int .u8 I8] 5)) := (Keep.refl _ _).alloc _
              have hcr := vf_delete H (hM.out.2.more H KA) nw (by rw [hnw.out]; exact vn_size _ _)
              rw [hdl] at hcr
              dsimp only at hcr
              have MA : RowKit.Hid (Md w (wr.alloc (.cells #[.int .u8 I8] 5)) (some ⟨gm, 0, none⟩) k cm (L.map (·.i))) := own_keepA hM.out.1 KA (fun _ _ e => e)
              have hdj : IntKind.i64.wrap ((j : Int) + 1) = ((j + 1 : Nat) : Int) := by rw [show (j : Int) + 1 = ((j + 1 : Nat) : Int) by omega]; exact wrapI (by omega) (by have := hjl.out; omega)
              clear hjk hj hm hmem h6 hds hdl hl2 hI8 KA hM
              go_wp2_with (guard_target =~ wpList _ _ _ (Oper.mk _ (Op.convert 59 9 (.tmp 229)) _ _ _ _ :: _) _ _; refine wpList_conv_run (by rfl) 59 9 (.tmp 229) rfl (by rfl) hcv ?_)
              refine hcr.mono ?_
              rintro e w5 ⟨rfl, V5, K5⟩
              have M5 : RowKit.Hid (Md w w5 (some ⟨gm, 0, none⟩) k cm (L.map (·.i)) ∧ Vf SV (Bl (some ⟨gm, 0, none⟩)) w w5 q p N l2 (st L k (j + 1))) := ⟨own_keepA MA.out K5 (fun g e h => h.2 e), V5⟩
              clear hcr hcv V5 K5 MA
              go_wp2_with fail
              go_roundw
              case rel => exact ⟨j + 1, l2, rfl, hjl.out.1, M5⟩
              case measure => have := hjl.out; simp [intOf]; omega
        · have hjlt : (j : Int) < k := by have := hj.out.1; omega
          have hjl : RowKit.Hid (j + 1 ≤ k ∧ k ≤ 6) := ⟨by omega, hL.out.2.2.2.2⟩
          obtain ⟨m, hm⟩ : ∃ m, L[j]? = some m := ⟨_, List.getElem?_eq_getElem (by have := hL.out.1; omega)⟩
          obtain ⟨gm, ea, z0⟩ := hM.out.1.at (i := m.i) (show (L.map (·.i))[j]? = some m.i by rw [List.getElem?_map, hm]; rfl)
          subst ea
          obtain ⟨i, mf, n⟩ := m
          dsimp only at z0
          have hmem := List.mem_of_getElem? hm
          have h1 : i < len ∧ n = nN (fl i) := hL.out.2.2.2.1 ⟨i, mf, n⟩ hmem
          have h6 : i < 6 := hL.out.2.1.i6 ⟨i, mf, n⟩ hmem
          have hby : rdL l mf n = cf i n := hj.out.2 ⟨i, mf, n⟩ hmem
          have hds := vf_ds H hM.out.2
          have hNb' := hNb.out
          have hnb := nN_bd (fl i)
          rw [← h1.2] at hnb
          obtain ⟨nm, hnm⟩ : ∃ z, RowKit.Hid (z = vn false i) := ⟨_, rfl⟩
          obtain ⟨nw, hnw⟩ : ∃ z, RowKit.Hid (z = vn true i) := ⟨_, rfl⟩
          obtain ⟨l2, hl2⟩ : ∃ z, z = wrL l j 1 (bytesE (vnL true i) mf n) := ⟨_, rfl⟩
          have hrS1 : readS l (st L j 0) nm 0 n = (rdL l mf n, 0) := by
            have := hL.out.2.1.read hds.sp hm (Nat.zero_le _) (l := l)
            rw [show decide (j < j) = false from decide_eq_false (by omega)] at this
            rw [hnm.out]
            exact this
          have hrn : renameS l (st L j 0) nm nw = ⟨l2, st L (j + 1) 0, 0⟩ := by rw [hnm.out, hnw.out, hl2]; exact hL.out.2.1.rename hds.sp hm
          have hby2 : RowKit.Hid (By cf L l2) := by rw [hl2]; exact By.entry hL.out.2.1 hj.out.2 hds.len (by have := hjl.out; omega) (by omega) _
          have hby3 : rdL l2 mf n = cf i n := hby2.out ⟨i, mf, n⟩ hmem
          have hrS2 : ∀ hs : Sp N (st L (j + 1) 0), readS l2 (st L (j + 1) 0) nw 0 n = (rdL l2 mf n, 0) := fun hs => by
            have := hL.out.2.1.read hs hm (Nat.zero_le _) (l := l2)
            rw [show decide (j < j + 1) = true from decide_eq_true (by omega)] at this
            rw [hnw.out]
            exact this
          obtain ⟨DD, hD1, hD2, hD8, hDc⟩ : ∃ DD, (i < lend → DD = nums (td i)) ∧ (¬ i < lend → DD = []) ∧ B8 DD ∧ cf i n = padL (n * 32) DD := by
            by_cases c : i < lend
            · exact ⟨nums (td i), fun _ => rfl, fun h => absurd c h, nums_b8 _, by rw [hcf.out]; exact if_pos c⟩
            · exact ⟨[], fun h => absurd h c, fun _ => rfl, fun x hx => (by cases hx), by rw [hcf.out, padL_nil]; exact if_neg c⟩
          rw [hby] at hrS1
          obtain ⟨T, hT⟩ : ∃ z, RowKit.Hid (z = strOfNums (padL (n * 32) DD)) := ⟨_, rfl⟩
          have hTc : strOfNums (cf i n) = T := by rw [hDc]; exact hT.out.symm
          have i64n : I64 (n : Int) := by unfold I64; omega
          have i640 : I64 0 := by unfold I64; omega
          have cR1 : RowKit.Hid (∀ wx G, Vf SV G w wx q p N l (st L j 0) → Calls Tryz.prog 12 #[Ptr q, .string nm, .int .i64 0, .int .i64 (n : Int)] wx fun e w' => e = .returned (.tuple #[.string T, .int .i64 0]) ∧ Vf SV G w w' q p N l (st L j 0) ∧ Keep (fun _ => False) wx w') := fun wx G hV => by
            have h := vf_read H hV nm 0 n (by rw [hnm.out]; exact vn_size _ _) i640 i64n
            rw [hrS1] at h
            dsimp only at h
            rw [hTc] at h
            exact h
          have cRn : RowKit.Hid (∀ wx G, Vf SV G w wx q p N l (st L j 0) → Calls Tryz.prog 14 #[Ptr q, .string nm, .string nw] wx fun e w' => e = .returned (.int .i64 0) ∧ Vf SV G w w' q p N l2 (st L (j + 1) 0) ∧ Keep (Oth G w) wx w') := fun wx G hV => by
            have h := vf_rename H hV nm nw (by rw [hnm.out]; exact vn_size _ _) (by rw [hnw.out]; exact vn_size _ _)
            rw [hrn] at h
            exact h
          have cR2 : RowKit.Hid (∀ wx G, Vf SV G w wx q p N l2 (st L (j + 1) 0) → Calls Tryz.prog 12 #[Ptr q, .string nw, .int .i64 0, .int .i64 (n : Int)] wx fun e w' => e = .returned (.tuple #[.string T, .int .i64 0]) ∧ Vf SV G w w' q p N l2 (st L (j + 1) 0) ∧ Keep (fun _ => False) wx w') := fun wx G hV => by
            have h := vf_read H hV nw 0 n (by rw [hnw.out]; exact vn_size _ _) i640 i64n
            rw [hrS2 (vf_ds H hV).sp, hby3] at h
            dsimp only at h
            rw [hTc] at h
            exact h
          have hdj : IntKind.i64.wrap ((j : Int) + 1) = ((j + 1 : Nat) : Int) := by rw [show (j : Int) + 1 = ((j + 1 : Nat) : Int) by omega]; exact wrapI (by omega) (by have := hjl.out; omega)
          have hlt : (i : Int) < len := by omega
          rcases hal'.out.1.2.2 with h0 | ⟨ga, oa, ea, hc⟩
          · exfalso; omega
          have x1 : IntKind.i64.wrap (1 + bits .and .i64 (fl i) 3) = (n : Int) := by rw [hnb.2.2]; exact wrapI (by omega) (by omega)
          have x2 : IntKind.i64.wrap (48 + (i : Int)) = ((48 + i : Nat) : Int) := by rw [show 48 + (i : Int) = ((48 + i : Nat) : Int) by omega]; exact wrapI (by omega) (by omega)
          have x3 : IntKind.u8.wrap ((48 + i : Nat) : Int) = ((48 + i : Nat) : Int) := by rw [IntKind.wrap_u8]; omega
          obtain ⟨I8, hI8⟩ : ∃ z : Int, z = ((48 + i : Nat) : Int) := ⟨_, rfl⟩
          rw [← hI8] at x2 x3
          have hcv := one_text wr (v := I8) ⟨by omega, by omega⟩
          have hct : (⟨#[118]⟩ : ByteArray) ++ strOfNums [I8] = vn false i := by rw [hI8]; exact cat_v
          have hct2 : (⟨#[119]⟩ : ByteArray) ++ vn false i = vn true i := cat_w
          have hsz : (strOfNums [I8]).size = 1 := by rw [strOfNums_size]; rfl
          have hsn : (vn false i).size = 2 := by unfold vn; rw [strOfNums_size]; rfl
          rw [← hnm.out] at hct hct2 hsn
          rw [← hnw.out] at hct2
          generalize strOfNums [I8] = t8 at *
          have KA : Keep (fun _ => False) wr (wr.alloc (.cells #[.int .u8 I8] 5)) := (Keep.refl _ _).alloc _
          have hz : RowKit.Hid ((∀ wx, Keep (fun _ => False) wr wx → wx.cell? ⟨ga, oa + i, none⟩ = some (.int .i64 (fl i))) ∧ (∀ wx, Keep (fun _ => False) wr wx → i < lend → ∃ gd od, ad = some ⟨gd, od, none⟩ ∧ wx.cell? ⟨gd, od + i, none⟩ = some (.string (td i)))) := by
            refine ⟨fun wx hk => ?_, fun wx hk hid => ?_⟩
            · have h5 := hc i h1.1
              rw [← h5]
              exact World.cell?_of_block (a := ⟨ga, oa + i, none⟩) ((hM.out.2.kp.trans hk).block ga (World.block_lt_of_cell? w _ h5) (fun e => e))
            · obtain ⟨gd, od, ed, hcd⟩ := hts.out.1 hid
              refine ⟨gd, od, ed, ?_⟩
              have h5 := hcd i hid
              rw [← h5]
              exact World.cell?_of_block (a := ⟨gd, od + i, none⟩) ((hM.out.2.kp.trans hk).block gd (World.block_lt_of_cell? w _ h5) (fun e => e))
          have z1 := hz.out.1 _ KA
          have q0 : IntKind.i64.wrap ((n : Int) * 32) = ((n * 32 : Nat) : Int) := by rw [show (n : Int) * 32 = ((n * 32 : Nat) : Int) by omega]; exact wrapI (by omega) (by omega)
          have hm0 : RowKit.Hid (0 < n * 32) := by show _ < _; omega
          have hm1 : RowKit.Hid (n * 32 ≤ 128) := by show _ ≤ _; omega
          have hDb := hD8
          clear hjk hj hm hmem h1 h6 hby hds hNb' hnb hl2 hrS1 hrn hby3 hrS2 hDc hTc i64n i640 hI8 hc
          generalize n * 32 = m8 at *
          subst ea
          go_upto_region 30 with (guard_target =~ wpList _ _ _ (Oper.mk _ (Op.convert 59 9 (.tmp 133)) _ _ _ _ :: _) _ _; refine wpList_conv_run (by rfl) 59 9 (.tmp 133) rfl (by rfl) hcv ?_)
          clear z0 hcv x2 x3
          generalize wr.alloc (.cells #[.int .u8 I8] 5) = wA at KA z1 ⊢
          go_upto_region 31 with fail
          clear z1 x1
          have hmk := make_bytes m8 (by have := hm1.out; omega) wA
          have hR0 := row_made wA m8 (by have := hm1.out; omega)
          have hF0 := free_made wA m8
          have hK0 : Keep (fun _ => False) wr (wA.alloc (.cells (madeCells #[.int .u8 0] m8) 5)) := KA.alloc _
          go_upto_region 32 with fail
          clear hmk q0
          generalize wA.alloc (.cells (madeCells #[.int .u8 0] m8) 5) = w2 at hR0 hF0 hK0 ⊢
          obtain ⟨g, hg⟩ : ∃ g, g = wA.heap.size := ⟨_, rfl⟩
          rw [← hg] at hR0 hF0 ⊢
          have hgv : RowKit.Hid (wr.heap.size ≤ g) := by rw [hg]; exact KA.size
          clear hg KA
          rw [show List.replicate m8 (0 : Int) = padI m8 DD 0 by simp [padI]] at hR0
          go_wp2_with fail
          go_loopw [20] (fun jv wx => ∃ jj : Nat, jj ≤ m8 ∧ jj ≤ DD.length ∧ jv = .int .i64 (jj : Int) ∧ Row wx (some ⟨g, 0, none⟩) m8 m8 (padI m8 DD jj) ∧ Free wx g m8 ∧ Keep (fun _ => False) wr wx) (fun jv _ => m8 - (intOf jv).toNat)
          case atStart => exact ⟨0, by omega, by omega, rfl, hR0, hF0, hK0⟩
          case round =>
            clear hR0 hF0 hK0
            obtain ⟨jj, hi1, hi2, rfl, R1, F1, K1⟩ := hrel
            by_cases hid : i < lend
            · have cid : (i : Int) < lend := by omega
              have did : decide ((i : Int) < lend) = true := decide_eq_true cid
              have hDe := hD1 hid
              obtain ⟨gd, od, ed, zt⟩ := hz.out.2 _ K1 hid
              subst ed
              subst hDe
              have hdl := nums_len (td i)
              by_cases c1 : jj < m8
              · have b1 : (jj : Int) < (m8 : Int) := by omega
                have e1' : decide ((jj : Int) < (m8 : Int)) = true := decide_eq_true b1
                by_cases c2 : jj < (td i).size
                · have b2 : (jj : Int) < ((td i).size : Int) := by omega
                  have e2' : decide ((jj : Int) < ((td i).size : Int)) = true := decide_eq_true b2
                  have hdb := getD_bound hD8 jj
                  have R2 := R1.set c1 hdb
                  rw [padI_set c1 (by omega)] at R2
                  have F2 := F1.set ⟨g, jj, none⟩ (.int .u8 ((nums (td i)).getD jj 0))
                  have K2 := K1.setCell (p := ⟨g, jj, none⟩) (Or.inr hgv.out) (.int .u8 ((nums (td i)).getD jj 0))
                  have u0 := R1.cellAt c1
                  have zf := (F1 jj c1).2
                  have dw := wrapI (x := (jj : Int) + 1) (by omega) (by have := hm1.out; omega)
                  have hlt' : RowKit.Hid (jj < m8 ∧ jj < (td i).size) := ⟨c1, c2⟩
                  clear R1 F1 K1 hz
                  rw [nums_at c2] at R2 F2 K2
                  go_wp2_with fail
                  go_roundw
                  case rel => exact ⟨jj + 1, by have h := hlt'.out; omega, by have h := hlt'.out; omega, by go_num, R2, F2, K2⟩
                  case measure => have h := hlt'.out; simp [intOf]; omega
                · have b2 : ¬ (jj : Int) < ((td i).size : Int) := by omega
                  have e2' : decide ((jj : Int) < ((td i).size : Int)) = false := decide_eq_false b2
                  have e1 : padI m8 (nums (td i)) jj = padL m8 (nums (td i)) := padI_end hi1 hi2 (Or.inr (by omega))
                  rw [e1] at R1
                  clear e1 hD1 hD2 hD8 hDb hi1 hi2 hdl
                  have hglt : g < wr.heap.size := World.block_lt_of_cell? wr _ (R1.cellAt (i := 0) hm0.out)
                  have V2 := hM.out.2.hold H K1 (G' := fun x => Bl (some ⟨gm, 0, none⟩) x ∨ x = g) (fun x hx => hx.imp id (fun e => by subst e; exact ⟨hgv.out, hglt⟩))
                  have M2 := own_keepA hM.out.1 K1 (fun _ _ e => e)
                  have MR : RowKit.Hid (Md w wr (some ⟨gm, 0, none⟩) k cm (L.map (·.i)) ∧ Row wr (some ⟨g, 0, none⟩) m8 m8 (padL m8 (nums (td i)))) := ⟨M2, R1⟩
                  have hr1 := cR1.out _ _ V2
                  clear V2 M2 R1 F1 K1 hM cR1 hz hglt
                  go_wp2_with fail
                  refine hr1.mono ?_
                  rintro e w3 ⟨rfl, V3, k3⟩
                  have MR3 : RowKit.Hid (Md w w3 (some ⟨gm, 0, none⟩) k cm (L.map (·.i)) ∧ Row w3 (some ⟨g, 0, none⟩) m8 m8 (padL m8 (nums (td i)))) := ⟨own_keepA MR.out.1 k3 (fun _ _ e => e), MR.out.2.keep k3 (fun _ _ _ e => e)⟩
                  have hr2 := cRn.out _ _ V3
                  clear hr1 V3 k3 MR cRn
                  go_wp2_with fail
                  refine hr2.mono ?_
                  rintro e w6 ⟨rfl, V6, k6⟩
                  have MR6 : RowKit.Hid (Md w w6 (some ⟨gm, 0, none⟩) k cm (L.map (·.i)) ∧ Row w6 (some ⟨g, 0, none⟩) m8 m8 (padL m8 (nums (td i)))) := ⟨own_keepA MR3.out.1 k6 (fun g' e h => h.2 (Or.inl e)), MR3.out.2.keep k6 (fun b o e h => h.2 (Or.inr (by injection e with e; injection e with e; exact e.symm)))⟩
                  have hr3 := cR2.out _ _ V6
                  clear hr2 V6 k6 MR3 cR2
                  go_wp2_with fail
                  refine hr3.mono ?_
                  rintro e w7 ⟨rfl, V7, k7⟩
                  have hcb := (MR6.out.2.keep k7 (fun _ _ _ e => e)).text
                  rw [← hT.out] at hcb
                  have M7 : RowKit.Hid (Md w w7 (some ⟨gm, 0, none⟩) k cm (L.map (·.i)) ∧ Vf SV (Bl (some ⟨gm, 0, none⟩)) w w7 q p N l2 (st L (j + 1) 0)) := ⟨own_keepA MR6.out.1 k7 (fun _ _ e => e), V7.less (fun x hx => Or.inl hx)⟩
                  clear hr3 V7 k7 MR6
                  go_wp2_with (first | (guard_target =~ wpList _ _ _ (Oper.mk _ (Op.convert 59 9 (.tmp 206)) _ _ _ _ :: _) _ _; refine wpList_conv_run (by rfl) 59 9 (.tmp 206) rfl (by rfl) hcb ?_) | (guard_target =~ wpList _ _ _ (Oper.mk _ (Op.convert 59 9 (.tmp 212)) _ _ _ _ :: _) _ _; refine wpList_conv_run (by rfl) 59 9 (.tmp 212) rfl (by rfl) hcb ?_))
                  clear hcb
                  go_roundw
                  case rel => exact ⟨j + 1, l2, rfl, ⟨hjl.out.1, hby2.out⟩, M7⟩
                  case measure => have := hjl.out; simp [intOf]; omega
              · have b1 : ¬ (jj : Int) < (m8 : Int) := by omega
                have e1' : decide ((jj : Int) < (m8 : Int)) = false := decide_eq_false b1
                have e1 : padI m8 (nums (td i)) jj = padL m8 (nums (td i)) := padI_end hi1 hi2 (Or.inl (by omega))
                rw [e1] at R1
                clear e1 hD1 hD2 hD8 hDb hi1 hi2 hdl
                have hglt : g < wr.heap.size := World.block_lt_of_cell? wr _ (R1.cellAt (i := 0) hm0.out)
                have V2 := hM.out.2.hold H K1 (G' := fun x => Bl (some ⟨gm, 0, none⟩) x ∨ x = g) (fun x hx => hx.imp id (fun e => by subst e; exact ⟨hgv.out, hglt⟩))
                have M2 := own_keepA hM.out.1 K1 (fun _ _ e => e)
                have MR : RowKit.Hid (Md w wr (some ⟨gm, 0, none⟩) k cm (L.map (·.i)) ∧ Row wr (some ⟨g, 0, none⟩) m8 m8 (padL m8 (nums (td i)))) := ⟨M2, R1⟩
                have hr1 := cR1.out _ _ V2
                clear V2 M2 R1 F1 K1 hM cR1 hz hglt
                go_wp2_with fail
                refine hr1.mono ?_
                rintro e w3 ⟨rfl, V3, k3⟩
                have MR3 : RowKit.Hid (Md w w3 (some ⟨gm, 0, none⟩) k cm (L.map (·.i)) ∧ Row w3 (some ⟨g, 0, none⟩) m8 m8 (padL m8 (nums (td i)))) := ⟨own_keepA MR.out.1 k3 (fun _ _ e => e), MR.out.2.keep k3 (fun _ _ _ e => e)⟩
                have hr2 := cRn.out _ _ V3
                clear hr1 V3 k3 MR cRn
                go_wp2_with fail
                refine hr2.mono ?_
                rintro e w6 ⟨rfl, V6, k6⟩
                have MR6 : RowKit.Hid (Md w w6 (some ⟨gm, 0, none⟩) k cm (L.map (·.i)) ∧ Row w6 (some ⟨g, 0, none⟩) m8 m8 (padL m8 (nums (td i)))) := ⟨own_keepA MR3.out.1 k6 (fun g' e h => h.2 (Or.inl e)), MR3.out.2.keep k6 (fun b o e h => h.2 (Or.inr (by injection e with e; injection e with e; exact e.symm)))⟩
                have hr3 := cR2.out _ _ V6
                clear hr2 V6 k6 MR3 cR2
                go_wp2_with fail
                refine hr3.mono ?_
                rintro e w7 ⟨rfl, V7, k7⟩
                have hcb := (MR6.out.2.keep k7 (fun _ _ _ e => e)).text
                rw [← hT.out] at hcb
                have M7 : RowKit.Hid (Md w w7 (some ⟨gm, 0, none⟩) k cm (L.map (·.i)) ∧ Vf SV (Bl (some ⟨gm, 0, none⟩)) w w7 q p N l2 (st L (j + 1) 0)) := ⟨own_keepA MR6.out.1 k7 (fun _ _ e => e), V7.less (fun x hx => Or.inl hx)⟩
                clear hr3 V7 k7 MR6
                go_wp2_with (first | (guard_target =~ wpList _ _ _ (Oper.mk _ (Op.convert 59 9 (.tmp 206)) _ _ _ _ :: _) _ _; refine wpList_conv_run (by rfl) 59 9 (.tmp 206) rfl (by rfl) hcb ?_) | (guard_target =~ wpList _ _ _ (Oper.mk _ (Op.convert 59 9 (.tmp 212)) _ _ _ _ :: _) _ _; refine wpList_conv_run (by rfl) 59 9 (.tmp 212) rfl (by rfl) hcb ?_))
                clear hcb
                go_roundw
                case rel => exact ⟨j + 1, l2, rfl, ⟨hjl.out.1, hby2.out⟩, M7⟩
                case measure => have := hjl.out; simp [intOf]; omega
            · have cid : ¬ (i : Int) < lend := by omega
              have did : decide ((i : Int) < lend) = false := decide_eq_false cid
              have hDe := hD2 hid
              have e1 : padI m8 DD jj = padL m8 DD := padI_end hi1 hi2 (Or.inr (by rw [hDe] at hi2 ⊢; simp at hi2 ⊢; omega))
              rw [e1] at R1
              clear e1 hDe hD1 hD2 hD8 hDb hi1 hi2
              have hglt : g < wr.heap.size := World.block_lt_of_cell? wr _ (R1.cellAt (i := 0) hm0.out)
              have V2 := hM.out.2.hold H K1 (G' := fun x => Bl (some ⟨gm, 0, none⟩) x ∨ x = g) (fun x hx => hx.imp id (fun e => by subst e; exact ⟨hgv.out, hglt⟩))
              have M2 := own_keepA hM.out.1 K1 (fun _ _ e => e)
              have MR : RowKit.Hid (Md w wr (some ⟨gm, 0, none⟩) k cm (L.map (·.i)) ∧ Row wr (some ⟨g, 0, none⟩) m8 m8 (padL m8 DD)) := ⟨M2, R1⟩
              have hr1 := cR1.out _ _ V2
              clear V2 M2 R1 F1 K1 hM cR1 hz hglt
              go_wp2_with fail
              refine hr1.mono ?_
              rintro e w3 ⟨rfl, V3, k3⟩
              have MR3 : RowKit.Hid (Md w w3 (some ⟨gm, 0, none⟩) k cm (L.map (·.i)) ∧ Row w3 (some ⟨g, 0, none⟩) m8 m8 (padL m8 DD)) := ⟨own_keepA MR.out.1 k3 (fun _ _ e => e), MR.out.2.keep k3 (fun _ _ _ e => e)⟩
              have hr2 := cRn.out _ _ V3
              clear hr1 V3 k3 MR cRn
              go_wp2_with fail
              refine hr2.mono ?_
              rintro e w6 ⟨rfl, V6, k6⟩
              have MR6 : RowKit.Hid (Md w w6 (some ⟨gm, 0, none⟩) k cm (L.map (·.i)) ∧ Row w6 (some ⟨g, 0, none⟩) m8 m8 (padL m8 DD)) := ⟨own_keepA MR3.out.1 k6 (fun g' e h => h.2 (Or.inl e)), MR3.out.2.keep k6 (fun b o e h => h.2 (Or.inr (by injection e with e; injection e with e; exact e.symm)))⟩
              have hr3 := cR2.out _ _ V6
              clear hr2 V6 k6 MR3 cR2
              go_wp2_with fail
              refine hr3.mono ?_
              rintro e w7 ⟨rfl, V7, k7⟩
              have hcb := (MR6.out.2.keep k7 (fun _ _ _ e => e)).text
              rw [← hT.out] at hcb
              have M7 : RowKit.Hid (Md w w7 (some ⟨gm, 0, none⟩) k cm (L.map (·.i)) ∧ Vf SV (Bl (some ⟨gm, 0, none⟩)) w w7 q p N l2 (st L (j + 1) 0)) := ⟨own_keepA MR6.out.1 k7 (fun _ _ e => e), V7.less (fun x hx => Or.inl hx)⟩
              clear hr3 V7 k7 MR6
              go_wp2_with (first | (guard_target =~ wpList _ _ _ (Oper.mk _ (Op.convert 59 9 (.tmp 206)) _ _ _ _ :: _) _ _; refine wpList_conv_run (by rfl) 59 9 (.tmp 206) rfl (by rfl) hcb ?_) | (guard_target =~ wpList _ _ _ (Oper.mk _ (Op.convert 59 9 (.tmp 212)) _ _ _ _ :: _) _ _; refine wpList_conv_run (by rfl) 59 9 (.tmp 212) rfl (by rfl) hcb ?_))
              clear hcb
              go_roundw
              case rel => exact ⟨j + 1, l2, rfl, ⟨hjl.out.1, hby2.out⟩, M7⟩
              case measure => have := hjl.out; simp [intOf]; omega
    · have hlt : (i : Int) < len := by have := hi.out.1; omega
      rcases hal'.out.1.2.2 with h0 | ⟨ga, oa, ea, hc⟩
      · exfalso; have := hi.out.1; omega
      · have z0 : wr.cell? ⟨ga, oa + i, none⟩ = some (.int .i64 (fl i)) := by
          have h5 := hc i (by have := hi.out.1; omega)
          rw [← h5]
          exact World.cell?_of_block (a := ⟨ga, oa + i, none⟩) (hM.out.2.kp.block ga (World.block_lt_of_cell? w _ h5) (fun e => e))
        have hil : RowKit.Hid (i + 1 ≤ len ∧ len ≤ 6) := ⟨by have := hi.out.1; omega, hal'.out.2⟩
        have hdi : IntKind.i64.wrap ((i : Int) + 1) = ((i + 1 : Nat) : Int) := by rw [show (i : Int) + 1 = ((i + 1 : Nat) : Int) by omega]; exact wrapI (by omega) (by have := hil.out; omega)
        have hnb := nN_bd (fl i)
        obtain ⟨BA, hBA⟩ : ∃ z, z = bits .and .i64 (fl i) 3 := ⟨_, rfl⟩
        obtain ⟨n, hn⟩ : ∃ z, RowKit.Hid (z = nN (fl i)) := ⟨_, rfl⟩
        rw [← hBA, ← hn.out] at hnb
        have x1 : IntKind.i64.wrap (1 + BA) = (n : Int) := by rw [hnb.2.2]; exact wrapI (by omega) (by omega)
        have x2 : IntKind.i64.wrap (48 + (i : Int)) = ((48 + i : Nat) : Int) := by rw [show 48 + (i : Int) = ((48 + i : Nat) : Int) by omega]; exact wrapI (by omega) (by have := hil.out; omega)
        have x3 : IntKind.u8.wrap ((48 + i : Nat) : Int) = ((48 + i : Nat) : Int) := by rw [IntKind.wrap_u8]; have := hil.out; omega
        obtain ⟨I8, hI8⟩ : ∃ z : Int, z = ((48 + i : Nat) : Int) := ⟨_, rfl⟩
        rw [← hI8] at x2 x3
        have hI8b : RowKit.Hid (0 ≤ I8 ∧ I8 ≤ 255 ∧ I8 = ((48 + i : Nat) : Int)) := by have := hil.out; show _ ∧ _ ∧ _; omega
        have hcv := one_text wr (v := I8) ⟨hI8b.out.1, hI8b.out.2.1⟩
        have hct : (⟨#[118]⟩ : ByteArray) ++ strOfNums [I8] = vn false i := by rw [hI8b.out.2.2]; exact cat_v
        have hsz : (strOfNums [I8]).size = 1 := by rw [strOfNums_size]; rfl
        have KA : Keep (fun _ => False) wr (wr.alloc (.cells #[.int .u8 I8] 5)) := (Keep.refl _ _).alloc _
        have VA := hM.out.2.more H KA
        have MA : RowKit.Hid (Md w (wr.alloc (.cells #[.int .u8 I8] 5)) am k cm (L.map (·.i))) := own_keepA hM.out.1 KA (fun _ _ e => e)
        have hcr := vf_create H VA (vn false i) n (vn_size _ _) (by unfold I64; omega)
        have hds := vf_ds H VA
        have h5 : L.length ≤ 5 := by have := hi.out.2.2.2.le; have := hil.out; omega
        have hwc := hi.out.2.2.2.wf.create hds (i := i) (n := n) (by have := hil.out; omega) (fun m hm => (hi.out.2.2.2.lt m hm).1) h5 ⟨hnb.1, hnb.2.1⟩
        obtain ⟨t8, ht8⟩ : ∃ z, RowKit.Hid (z = strOfNums [I8]) := ⟨_, rfl⟩
        rw [← ht8.out] at hcv hct hsz
        obtain ⟨nm, hnm⟩ : ∃ z, RowKit.Hid (z = vn false i) := ⟨_, rfl⟩
        rw [← hnm.out] at hct hcr hwc
        have hnN := hn
        have hI8v : RowKit.Hid (0 ≤ I8 ∧ I8 ≤ 255) := ⟨hI8b.out.1, hI8b.out.2.1⟩
        have hnb' : RowKit.Hid (1 ≤ n ∧ n ≤ 4) := ⟨hnb.1, hnb.2.1⟩
        have hea : RowKit.Hid (al = some ⟨ga, oa, none⟩) := ea
        clear hnb hI8 hc hal' hn KA VA hM
        have ea := hea.out
        subst ea
        clear hea
        rw [hBA] at x1
        clear hBA
        have hWh := hi.out.2.2.2
        have hFv := hi.out.2.1
        have hkv := hi.out.2.2.1
        have hl := hds.len
        have h8 := endP_le 8 L
        have hNb' := hNb.out
        by_cases hfit : endP 8 L + n ≤ N
        · rw [hwc.1 hfit] at hcr
          dsimp only at hcr
          generalize bytesE (vnL false i) (endP 8 L) n = be at *
          have cF : (n : Int) ≤ F := by omega
          have dF : decide ((n : Int) ≤ F) = true := decide_eq_true cF
          have hwF : IntKind.i64.wrap (F - n) = F - n := wrapI (by omega) (by omega)
          have hF' : RowKit.Hid (F - (n : Int) = (N : Int) - endP 8 (L ++ [⟨i, endP 8 L, n⟩]) ∧ k + 1 = (L ++ [(⟨i, endP 8 L, n⟩ : Mk)]).length ∧ k ≤ 5) := by
            refine ⟨?_, ?_, ?_⟩
            · rw [endP_app]
              show F - (n : Int) = (N : Int) - ((endP 8 L + n : Nat) : Int)
              omega
            · rw [List.length_append]; simp; omega
            · omega
          have hnx0 := fun hc => hWh.next0 hl (by omega) (by have := hil.out; omega) h5 hnN.out hfit be hc
          have hnx1 := fun d hc => hWh.next1 hl (by omega) (by have := hil.out; omega) h5 hnN.out hfit be d hc
          have hnx : RowKit.Hid ((cf i n = List.replicate (n * 32) 0 → Wh N fl cf (i + 1) (L ++ [⟨i, endP 8 L, n⟩]) (wrL (wrL l (endP 8 L) n []) L.length 1 be)) ∧ (∀ d, cf i n = padL (n * 32) d → Wh N fl cf (i + 1) (L ++ [⟨i, endP 8 L, n⟩]) (wrL (wrL (wrL l (endP 8 L) n []) L.length 1 be) (endP 8 L) n d))) := ⟨hnx0, hnx1⟩
          clear hwc hnx0 hnx1 hWh hFv hkv hl h8 hNb' hfit h5 hds hi hnb'
          go_upto_region 15 with fail
          clear z0 x1
          go_wp2_with (guard_target =~ wpList _ _ _ (Oper.mk _ (Op.convert 59 9 (.tmp 75)) _ _ _ _ :: _) _ _; refine wpList_conv_run (by rfl) 59 9 (.tmp 75) rfl (by rfl) hcv ?_)
          refine hcr.mono ?_
          rintro e w5 ⟨rfl, V5, K5⟩
          have M5 := own_keepA MA.out K5 (fun g e h => h.2 e)
          obtain ⟨g6, cap6, w6, hap, hM6, hk6, hg6, hl6⟩ := Md.app M5 V5.kp.size (by have := hF'.out; omega) i
          have V6 := V5.swap H hk6 (G' := Bl (some ⟨g6, 0, none⟩)) (fun x e => ⟨(Md.lt M5 e).1, e⟩) (fun x e => by
            have e : g6 = x := by injection e with e; injection e
            subst e
            rcases hg6 with c | c
            · exact Or.inl c
            · exact Or.inr ⟨c, hl6⟩)
          have V6' : RowKit.Hid (Md w w6 (some ⟨g6, 0, none⟩) (k + 1) cap6 (L.map (·.i) ++ [i]) ∧ Vf SV (Bl (some ⟨g6, 0, none⟩)) w w6 q p N (wrL (wrL l (endP 8 L) n []) L.length 1 be) (st (L ++ [⟨i, endP 8 L, n⟩]) 0 0)) := ⟨hM6, V6⟩
          clear hcr hcv V5 K5 MA M5 hM6 hk6 hg6 hl6 V6
          go_upto_region 21 with (at_builtin; refine wpList_append_text rfl (.tmp 91) (.tmp 93) 57 57 rfl (by rfl) (by rfl) hap ?_)
          clear hap cF dF hwF
          by_cases hid : i < lend
          · have cid : (i : Int) < lend := by omega
            have did : decide ((i : Int) < lend) = true := decide_eq_true cid
            have hcfi : cf i n = padL (n * 32) (nums (td i)) := by rw [hcf.out]; exact if_pos hid
            have hW1 : RowKit.Hid (Wh N fl cf (i + 1) (L ++ [⟨i, endP 8 L, n⟩]) (wrL (wrL (wrL l (endP 8 L) n []) L.length 1 be) (endP 8 L) n (nums (td i)))) := hnx.out.2 _ hcfi
            have hmm : (L ++ [(⟨i, endP 8 L, n⟩ : Mk)])[L.length]? = some ⟨i, endP 8 L, n⟩ := by rw [List.getElem?_append_right (Nat.le_refl _), Nat.sub_self]; rfl
            have hcwr : RowKit.Hid (∀ w', Keep (fun _ => False) w6 w' → Calls Tryz.prog 27 #[Ptr q, .string nm, .int .i64 0, .int .i64 (n : Int), .string (td i)] w' fun e w2 => e = .returned (.int .i64 0) ∧ Vf SV (Bl (some ⟨g6, 0, none⟩)) w w2 q p N (wrL (wrL (wrL l (endP 8 L) n []) L.length 1 be) (endP 8 L) n (nums (td i))) (st (L ++ [⟨i, endP 8 L, n⟩]) 0 0) ∧ Keep (Oth (Bl (some ⟨g6, 0, none⟩)) w) w' w2) := fun w' hk => by
              have V7 := V6'.out.2.more H hk
              have hy := vf_write H V7 nm 0 n (td i) (by rw [hnm.out]; exact vn_size _ _) (by unfold I64; omega) (by unfold I64; have := (hnx.out.2 _ hcfi).wf.e; have := hNb.out; have e8 := endP_app 8 L ⟨i, endP 8 L, n⟩; have e8 : endP 8 (L ++ [⟨i, endP 8 L, n⟩]) = endP 8 L + n := e8; omega) (hts.out.2 i hid)
              have hwr := (hnx.out.2 _ hcfi).wf.write hmm (vf_ds H V7).sp (td i) (l := wrL (wrL l (endP 8 L) n []) L.length 1 be)
              dsimp only at hwr
              rw [hnm.out] at hy ⊢
              rw [hwr] at hy
              exact hy
            obtain ⟨gd, od, ed, hcd⟩ := hts.out.1 hid
            have hz : RowKit.Hid (∀ w', Keep (Oth (Bl (some ⟨g6, 0, none⟩)) w) w6 w' → w'.cell? ⟨gd, od + i, none⟩ = some (.string (td i))) := fun w' hk => by
              have h5 := hcd i hid
              have hb := World.block_lt_of_cell? w _ h5
              rw [← h5]
              have e1 := V6'.out.2.kp.block gd hb (fun e => e)
              have e2 := hk.block gd (Nat.lt_of_lt_of_le hb V6'.out.2.kp.size) (fun e => by have := e.1; have hb : gd < w.heap.size := hb; omega)
              exact World.cell?_of_block (a := ⟨gd, od + i, none⟩) (e2.trans e1)
            obtain ⟨TD, hTD⟩ : ∃ z, z = td i := ⟨_, rfl⟩
            obtain ⟨l2, hl2⟩ : ∃ z, z = wrL (wrL (wrL l (endP 8 L) n []) L.length 1 be) (endP 8 L) n (nums (td i)) := ⟨_, rfl⟩
            rw [← hl2] at hcwr hW1
            rw [← hTD] at hcwr hz
            clear hnx hcfi hmm hcd hTD hl2
            subst ed
            refine wp_region_noPanic ?_
            refine wp_region_held_drew (S := fun w' => Keep (Oth (Bl (some ⟨g6, 0, none⟩)) w) w6 w') (by kernel_rfl) ((Keep.refl _ _).drew) (fun hH0 => ?_)
            refine tk 0 hH0 ?_
            refine tk 1 hH0 ?_
            refine tk 2 hH0 ?_
            refine tk 3 hH0 ?_
            refine tk 4 hH0 ?_
            refine tk 5 hH0 ?_
            refine tk 6 hH0 ?_
            refine tk 7 hH0 ?_
            refine tk 8 hH0 ?_ (hy := Or.inl ⟨by rfl, by intro w' hSw; go_simp; try with_reducible rfl⟩)
            refine tk 12 hH0 ?_
            refine tk 13 hH0 ?_
            refine tk 14 hH0 ?_
            refine tk 15 hH0 ?_
            refine tk 16 hH0 ?_ (hy := Or.inl ⟨by rfl, by intro w' hSw; have z := hz.out w' hSw; clear hSw; go_simp; try with_reducible rfl⟩)
            refine rd 9 (fun K hK => ?_)
            obtain ⟨wA, hA, rA, kA⟩ := build1_ex hI8v.out (w6.drew)
            have htx := rA.txt (Keep.refl (fun _ => False) _)
            rw [← ht8.out] at htx
            refine step_build1 (by rfl) 59 _ rfl (by rfl) hA ?_
            refine hK.out _ _ ((((Keep.refl _ _).drew).trans (kA.mono (fun _ _ e => e.elim)))) (fun hH1 => ?_)
            clear hK K
            simp only [Act.put, List.setIfInBounds_toArray, List.set_cons_zero, List.set_cons_succ]
            refine rd 10 (fun K hK => ?_)
            refine step_conv_run (by rfl) 59 9 _ rfl (by rfl) htx ?_
            refine hK.out _ _ ((((Keep.refl _ _).drew).trans (kA.mono (fun _ _ e => e.elim)))) (fun hH2 => ?_)
            clear hK K
            simp only [Act.put, List.setIfInBounds_toArray, List.set_cons_zero, List.set_cons_succ]
            refine tk 11 hH2 ?_ (hy := Or.inl ⟨by rfl, by intro w' hSw; go_simp; try with_reducible rfl⟩)
            refine rd 17 (fun K hK => ?_)
            have hcw := hcwr.out _ (((Keep.refl _ _).drew).trans kA)
            refine step_call_want (vs := #[Ptr q, .string nm, .int .i64 0, .int .i64 (n : Int), .string TD]) (R := fun v wz => v = .int .i64 0 ∧ Vf SV (Bl (some ⟨g6, 0, none⟩)) w wz q p N l2 (st (L ++ [⟨i, endP 8 L, n⟩]) 0 0) ∧ Keep (Oth (Bl (some ⟨g6, 0, none⟩)) w) (wA) wz) (by rfl) 27 _ _ rfl (by simp [Act.eval]) gcWrite (hcw.mono (by rintro e wz ⟨rfl, v2, k⟩; exact ⟨_, rfl, rfl, v2, k⟩)) ?_
            rintro v wc ⟨rfl, vc, kc⟩
            refine hK.out _ _ (((((Keep.refl _ _).drew).trans (kA.mono (fun _ _ e => e.elim))).trans kc)) (fun hH3 => ?_)
            clear hK K
            simp only [Act.put, List.setIfInBounds_toArray, List.set_cons_zero, List.set_cons_succ]
            refine tk 18 hH3 ?_
            refine tk 19 hH3 ?_
            refine wpAnyH_done (by kernel_rfl) ?_ _
            refine NoPanic.normal ?_
            have V7 : RowKit.Hid (Md w wc (some ⟨g6, 0, none⟩) (k + 1) cap6 (L.map (·.i) ++ [i]) ∧ Vf SV (Bl (some ⟨g6, 0, none⟩)) w wc q p N l2 (st (L ++ [⟨i, endP 8 L, n⟩]) 0 0)) := ⟨own_keepA (S := Oth (Bl (some ⟨g6, 0, none⟩)) w) V6'.out.1 ((((Keep.refl _ _).drew).trans (kA.mono (fun _ _ e => e.elim))).trans kc) (fun _ e h => h.2 e), vc⟩
            clear V6' cid did
            go_wp2_with fail
            go_roundw
            case rel => exact ⟨i + 1, k + 1, cap6, F - n, L ++ [⟨i, endP 8 L, n⟩], _, some ⟨g6, 0, none⟩, rfl, rfl, rfl, ⟨hil.out.1, hF'.out.1, hF'.out.2.1, hW1.out⟩, by have := V7.out; rw [List.map_append]; exact this⟩
            case measure => have := hil.out; simp [intOf]; omega
          · have cid : ¬ (i : Int) < lend := by omega
            have did : decide ((i : Int) < lend) = false := decide_eq_false cid
            have hcfi : cf i n = List.replicate (n * 32) 0 := by rw [hcf.out]; exact if_neg hid
            have hW1 : RowKit.Hid (Wh N fl cf (i + 1) (L ++ [⟨i, endP 8 L, n⟩]) (wrL (wrL l (endP 8 L) n []) L.length 1 be)) := hnx.out.1 hcfi
            clear hnx hcfi
            refine wp_region_noPanic ?_
            refine wp_region_held_drew (S := fun w' => Keep (fun _ => False) w6 w') (by kernel_rfl) ((Keep.refl _ _).drew) (fun hH0 => ?_)
            refine tk 0 hH0 ?_
            refine tk 1 hH0 ?_
            refine tk 2 hH0 ?_
            refine tk 3 hH0 ?_
            refine tk 4 hH0 ?_
            refine tk 5 (v := undef) hH0 ?_ (hy := Or.inr ⟨by rfl, by rfl⟩)
            refine tk 6 (v := undef) hH0 ?_ (hy := Or.inr ⟨by rfl, by rfl⟩)
            refine tk 7 (v := undef) hH0 ?_ (hy := Or.inr ⟨by rfl, by rfl⟩)
            refine tk 8 (v := undef) hH0 ?_ (hy := Or.inr ⟨by rfl, by rfl⟩)
            refine tk 12 (v := undef) hH0 ?_ (hy := Or.inr ⟨by rfl, by rfl⟩)
            refine tk 13 (v := undef) hH0 ?_ (hy := Or.inr ⟨by rfl, by rfl⟩)
            refine tk 14 (v := undef) hH0 ?_ (hy := Or.inr ⟨by rfl, by rfl⟩)
            refine tk 15 (v := undef) hH0 ?_ (hy := Or.inr ⟨by rfl, by rfl⟩)
            refine tk 16 (v := undef) hH0 ?_ (hy := Or.inr ⟨by rfl, by rfl⟩)
            refine tk 9 (v := undef) hH0 ?_ (hy := Or.inr ⟨by rfl, by rfl⟩)
            refine tk 10 (v := undef) hH0 ?_ (hy := Or.inr ⟨by rfl, by rfl⟩)
            refine tk 11 (v := undef) hH0 ?_ (hy := Or.inr ⟨by rfl, by rfl⟩)
            refine tk 17 (v := undef) hH0 ?_ (hy := Or.inr ⟨by rfl, by rfl⟩)
            refine tk 18 (v := undef) hH0 ?_ (hy := Or.inr ⟨by rfl, by rfl⟩)
            refine tk 19 hH0 ?_
            refine wpAnyH_done (by kernel_rfl) ?_ _
            refine NoPanic.normal ?_
            have V7 : RowKit.Hid (Md w w6.drew (some ⟨g6, 0, none⟩) (k + 1) cap6 (L.map (·.i) ++ [i]) ∧ Vf SV (Bl (some ⟨g6, 0, none⟩)) w w6.drew q p N (wrL (wrL l (endP 8 L) n []) L.length 1 be) (st (L ++ [⟨i, endP 8 L, n⟩]) 0 0)) := ⟨own_keepA (S := fun _ => False) V6'.out.1 ((Keep.refl _ _).drew) (fun _ _ e => e), V6'.out.2.more H ((Keep.refl _ _).drew)⟩
            clear V6' cid did
            go_wp2_with fail
            go_roundw
            case rel => exact ⟨i + 1, k + 1, cap6, F - n, L ++ [⟨i, endP 8 L, n⟩], _, some ⟨g6, 0, none⟩, rfl, rfl, rfl, ⟨hil.out.1, hF'.out.1, hF'.out.2.1, hW1.out⟩, by have := V7.out; rw [List.map_append]; exact this⟩
            case measure => have := hil.out; simp [intOf]; omega
        · rw [hwc.2 hfit] at hcr
          dsimp only at hcr
          have cF : ¬ (n : Int) ≤ F := by omega
          have dF : decide ((n : Int) ≤ F) = false := decide_eq_false cF
          have hW1 : RowKit.Hid ((F = (N : Int) - endP 8 L ∧ k = L.length) ∧ Wh N fl cf (i + 1) L l) := ⟨⟨hFv, hkv⟩, hWh.skip⟩
          clear hwc hWh hFv hkv hl h8 hNb' hfit h5 hds hi hnb'
          go_upto_region 15 with fail
          clear z0 x1
          go_wp2_with (guard_target =~ wpList _ _ _ (Oper.mk _ (Op.convert 59 9 (.tmp 75)) _ _ _ _ :: _) _ _; refine wpList_conv_run (by rfl) 59 9 (.tmp 75) rfl (by rfl) hcv ?_)
          refine hcr.mono ?_
          rintro e w5 ⟨rfl, V5, K5⟩
          have M5 : RowKit.Hid (Md w w5 am k cm (L.map (·.i)) ∧ Vf SV (Bl am) w w5 q p N l (st L 0 0)) := ⟨own_keepA MA.out K5 (fun g e h => h.2 e), V5⟩
          clear hcr hcv V5 K5 MA
          go_wp2_with fail
          go_roundw
          case rel => exact ⟨i + 1, k, cm, F, L, l, am, rfl, rfl, rfl, ⟨hil.out.1, hW1.out.1.1, hW1.out.1.2, hW1.out.2⟩, M5⟩
          case measure => have := hil.out; simp [intOf]; omega
end
end Tg
end Go.Proofs.YtjgnajopomadpaaGreat
