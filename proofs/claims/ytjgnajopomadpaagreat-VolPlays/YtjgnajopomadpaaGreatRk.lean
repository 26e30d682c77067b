/-
  VolApart's main way, given what a store's calls answer.
-/
import Derived.Test.YtjgnajopomadpaaGreatRj
namespace Go.Proofs.YtjgnajopomadpaaGreat
open Go.ChangeShapes Go.WideShapes Go.ChangeAt Go.RowKit
namespace Tg
open Qm Crc
section
variable {SV : (Nat → Prop) → World → Nat → Nat → Nat → List Int → (Nat → Option En) → Prop}
set_option maxRecDepth 100000 in
set_option maxHeartbeats 32000000 in
theorem apart_main (H : StOk SV) {w : World} {a : Option Addr} {len c N : Nat} (first data : ByteArray) (hda : data.size ≤ 9223372036854775807) (h : 9 ≤ N ∧ N ≤ 64) (hb : len ≤ 25) (hac : Acs w a len c) :
    Calls Tryz.prog 6 #[.int .i64 (N : Int), .string first, .slice a len c, .string data] w fun e w' => e = .returned (.bool true) ∧ Keep (fun _ => False) w w' := by
  have hA := awake25 H w
  have hN := fun w => new_yes w (by omega : 1 ≤ N) (by omega : N ≤ 512)
  have hac' : RowKit.Hid (Acs w a len c ∧ len ≤ 25 ∧ data.size ≤ 9223372036854775807) := ⟨hac, hb, hda⟩
  have hok : okR N (0 : Nat) N = true := okR_iff.2 ⟨by omega, by omega, by omega⟩
  have hNb : RowKit.Hid (9 ≤ N ∧ N ≤ 64) := h
  have hl0 : RowKit.Hid ((List.replicate (N * 32) (0 : Int)).length = N * 32) := List.length_replicate
  obtain ⟨l1, hl1⟩ : ∃ l1, l1 = wrL (List.replicate (N * 32) 0) 0 N (nums first) := ⟨_, rfl⟩
  have hlen1 : RowKit.Hid (l1.length = N * 32) := by
    rw [hl1]
    exact (wrL_len (by rw [List.length_replicate]; omega)).trans List.length_replicate
  have hWA := fun {w : World} {p g cap : Nat} (hA : Arr w p g cap (List.replicate (N * 32) 0)) => write_yes hA hl0.out (by omega : N ≤ 512) hok first
  rw [← hl1] at hWA
  have hWA : RowKit.Hid (∀ {w : World} {p g cap : Nat}, Arr w p g cap (List.replicate (N * 32) 0) → Calls Tryz.prog 17 #[Ptr p, .int .i64 0, .int .i64 (N : Int), .string first] w fun e w' => e = .returned (.int .i64 0) ∧ Arr w' p g cap l1 ∧ Keep (fun k => k = g) w w') := hWA
  have c0 : ¬ (N : Int) < 9 := by omega
  have d0 : decide ((N : Int) < 9) = false := decide_eq_false c0
  have c1 : ¬ (N : Int) > 64 := by omega
  have d1 : decide ((N : Int) > 64) = false := decide_eq_false c1
  have c2 : ¬ (len : Int) > 25 := by omega
  have d2 : decide ((len : Int) > 25) = false := decide_eq_false c2
  clear hac hb h hok hl0 hl1 hda
  go_enter Tryz.func6, Tryz.ntmps6
  go_wp2_with fail
  refine hA.mono ?_
  rintro e w1 ⟨rfl, k1⟩
  have hN1 := hN w1
  clear hA hN
  go_wp2_with fail
  refine hN1.mono ?_
  rintro e w2 ⟨p, S, rfl, ⟨g, cap, hAr, hS⟩, hlo, k2⟩
  have hp : RowKit.Hid (w.heap.size ≤ p ∧ w.heap.size ≤ g) := ⟨Nat.le_trans k1.size (hlo p ((hS p).2 (Or.inl rfl))), Nat.le_trans k1.size (hlo g ((hS g).2 (Or.inr rfl)))⟩
  have hK : RowKit.Hid (Keep (fun _ => False) w w2) := k1.trans k2
  have hW := hWA.out hAr
  clear hN1 k1 k2 hlo hS hAr hWA
  go_wp2_with fail
  refine hW.mono ?_
  rintro e w3 ⟨rfl, hA3, k3⟩
  have hK3 : Keep (fun _ => False) w w3 := hK.out.next k3 (fun x hx e => by have := hp.out.2; omega)
  have hO := vf_open H (w0 := w) hA3 hp.out hK3 hlen1.out (by have := hNb.out; omega)
  clear hW hA3 k3 hK hK3 hp hlen1 c0 d0 c1 d1 c2 d2
  go_wp2_with fail
  refine hO.mono ?_
  rintro e w4 ⟨q, rfl, V4, -⟩
  have V4' : RowKit.Hid (Vf SV (fun _ => False) w w4 q p N l1 (plc N l1)) := V4
  clear hO V4
  go_wp2_with fail
  go_loopw [12] (fun iv wx => ∃ (i : Nat) (l : List Int) (s : Nat → Option En), iv = .int .i64 (i : Int) ∧ RowKit.Hid (i ≤ len) ∧ RowKit.Hid (Vf SV (fun _ => False) w wx q p N l s)) (fun iv _ => len - (intOf iv).toNat)
  case atStart => exact ⟨0, l1, plc N l1, rfl, by show 0 ≤ len; omega, V4'⟩
  case round =>
    clear V4'
    obtain ⟨i, l, s, rfl, hi, hV⟩ := hrel
    by_cases him : i = len
    · have hge : ¬ (i : Int) < len := by omega
      clear hi him
      have hdi : RowKit.Hid (data.size ≤ 9223372036854775807) := hac'.out.2.2
      have cv := vf_vols H hV.out
      have hds : RowKit.Hid (Ds N l s) := vf_ds H hV.out
      clear hac'
      go_wp2_with fail
      refine cv.mono ?_
      rintro e w5 ⟨av, cc, m, rfl, hm0, R5⟩
      have hm : RowKit.Hid (m = (lst s).length ∧ m ≤ 8) := ⟨hm0, by
        rw [hm0]
        unfold lst
        exact Nat.le_trans (List.length_filterMap_le _ _) (by rw [List.length_range]; omega)⟩
      obtain ⟨Gv, hGv⟩ : ∃ z : Nat → Prop, z = fun x => wr.heap.size ≤ x ∧ x < w5.heap.size := ⟨_, rfl⟩
      have V5 : RowKit.Hid (Vf SV Gv w w5 q p N l s) := hV.out.hold H R5.keep (fun x hx => by rw [hGv] at hx; exact Or.inr hx)
      have Z5 : RowKit.Hid (Vr Gv w5 av (lst s)) := by rw [hGv]; exact R5.vr
      have hG5 : RowKit.Hid (∀ x, Gv x → x < w5.heap.size) := fun x hx => by rw [hGv] at hx; exact hx.2
      clear cv hm0 R5 hV hge hGv
      have hmk := make61 N (by have := hNb.out; omega) w5
      have hbu : RowKit.Hid (Blk (w5.alloc (.cells (madeCells #[.bool false] N) 4)) w5.heap.size N (fun _ => .bool false)) := blk61 N w5
      have hku : RowKit.Hid (Keep (fun _ => False) w5 (w5.alloc (.cells (madeCells #[.bool false] N) 4))) := (Keep.refl _ _).alloc _
      have hlt : RowKit.Hid (w5.heap.size < (w5.alloc (.cells (madeCells #[.bool false] N) 4)).heap.size) := by show _ < _; simp
      generalize w5.alloc (.cells (madeCells #[.bool false] N) 4) = w6 at hmk hbu hku hlt
      obtain ⟨gu, hgu⟩ : ∃ z, z = w5.heap.size := ⟨_, rfl⟩
      rw [← hgu] at hmk hbu hlt hG5
      obtain ⟨G, hG⟩ : ∃ z : Nat → Prop, z = fun x => Gv x ∨ x = gu := ⟨_, rfl⟩
      have V6 : RowKit.Hid (Vf SV G w w6 q p N l s) := V5.out.hold H hku.out (fun x hx => by
        rw [hG] at hx
        rcases hx with c | c
        · exact Or.inl c
        · exact Or.inr ⟨by omega, by rw [c]; exact hlt.out⟩)
      have Z6 : RowKit.Hid (Vr Gv w6 av (lst s)) := Z5.out.keep hku.out (fun _ _ e => e)
      have hgv : RowKit.Hid (∀ x, Gv x → x ≠ gu) := fun x hx => by have := hG5.out x hx; omega
      have hGG : RowKit.Hid ((∀ x, Gv x → G x) ∧ G gu ∧ w.heap.size ≤ gu) := by
        rw [hG]
        exact ⟨fun x hx => Or.inl hx, Or.inr rfl, by have := V5.out.kp.size; omega⟩
      have hw8 := wrapI (x := (N : Int) - 8) (by omega) (by have := hNb.out; omega)
      clear V5 Z5 hG hgu hku hlt hG5
      go_wp2_with fail
      clear hmk hw8
      obtain ⟨V, hVV⟩ : ∃ V, RowKit.Hid (V = lst s) := ⟨_, rfl⟩
      rw [← hVV.out] at Z6 hm
      go_loopw [15, 16] (fun fv iv wx => ∃ (i : Nat) (F : Int), fv = .int .i64 F ∧ iv = .int .i64 (i : Int) ∧ RowKit.Hid (i ≤ m ∧ F = N - 8 - lensF (V.take i)) ∧ RowKit.Hid (Vr Gv wx av V ∧ Blk wx gu N (fun j => .bool (usedV (V.take i) j)) ∧ Vf SV G w wx q p N l s)) (fun _ iv _ => m - (intOf iv).toNat)
      case atStart => exact ⟨0, _, rfl, rfl, ⟨by omega, by simp [lensF]⟩, Z6.out, hbu.out, V6.out⟩
      case round =>
        clear Z6 hbu V6
        obtain ⟨i, F, rfl, rfl, hi, hM⟩ := hrel
        by_cases him : i = m
        · have hF : RowKit.Hid (F = N - 8 - lensF (lst s)) := by
            show _ = _
            rw [hi.out.2, him, hm.out.1, List.take_length, hVV.out]
          have hge : ¬ (i : Int) < m := by omega
          have hM2 : RowKit.Hid (Vr Gv wr av V ∧ Vf SV G w wr q p N l s) := ⟨hM.out.1, hM.out.2.2⟩
          have cf := fun (w' : World) (h : Vf SV G w w' q p N l s) => vf_free H h
          rw [← hF.out] at cf
          have cf : RowKit.Hid (∀ w', Vf SV G w w' q p N l s → Calls Tryz.prog 26 #[Ptr q] w' fun e w2 => e = .returned (.int .i64 F) ∧ Vf SV G w w2 q p N l s ∧ Keep (fun _ => False) w' w2) := cf
          have cf1 := cf.out wr hM2.out.2
          clear hi him hM hF hgv
          go_wp2_with fail
          refine cf1.mono ?_
          rintro e w7 ⟨rfl, V7, k7⟩
          have M7 : RowKit.Hid (Vr Gv w7 av V ∧ Vf SV G w w7 q p N l s) := ⟨hM2.out.1.keep k7 (fun _ _ e => e), V7⟩
          clear cf1 V7 k7 hM2 hge
          by_cases hm2 : (m : Int) < 2
          · have dm2 : decide ((m : Int) < 2) = true := decide_eq_true hm2
            have cf2 := cf.out w7 M7.out.2
            clear cf M7 hm hVV hds hNb hdi hGG
            go_wp2_with fail
            refine cf2.mono ?_
            rintro e w8 ⟨rfl, V8, k8⟩
            have hK : RowKit.Hid (Keep (fun _ => False) w w8) := V8.kp
            clear cf2 V8 k8
            go_wp2_with fail
            go_ret
            exact ⟨rfl, hK⟩
          · have dm2 : decide ((m : Int) < 2) = false := decide_eq_false hm2
            obtain ⟨e0, he0⟩ : ∃ e, V[0]? = some e := ⟨_, List.getElem?_eq_getElem (by have := hm.out.1; omega)⟩
            obtain ⟨e1, he1⟩ : ∃ e, V[1]? = some e := ⟨_, List.getElem?_eq_getElem (by have := hm.out.1; omega)⟩
            have he0' : (lst s)[0]? = some e0 := by rw [← hVV.out]; exact he0
            have he1' : (lst s)[1]? = some e1 := by rw [← hVV.out]; exact he1
            have hel0 := hds.out.sp.el he0'
            have hel1 := hds.out.sp.el he1'
            have p0 := hds.out.sp.place he0'
            have p1 := hds.out.sp.place he1'
            have hap := hds.out.sp.pair (by omega : 0 < 1) he0' he1'
            obtain ⟨gv, ov, ea, hgvx, -⟩ := M7.out.1 0 e0 he0
            obtain ⟨f0, hf0⟩ : ∃ z : Nat, e0.f = (z : Int) := ⟨e0.f.toNat, by have := hel0.1.f; omega⟩
            obtain ⟨f1, hf1⟩ : ∃ z : Nat, e1.f = (z : Int) := ⟨e1.f.toNat, by have := hel1.1.f; omega⟩
            obtain ⟨n0, hn0⟩ : ∃ z : Nat, e0.n = (z : Int) := ⟨e0.n.toNat, by have := hel0.1.n; omega⟩
            obtain ⟨n1, hn1⟩ : ∃ z : Nat, e1.n = (z : Int) := ⟨e1.n.toNat, by have := hel1.1.n; omega⟩
            obtain ⟨N0, hN0⟩ : ∃ z, RowKit.Hid (z = strOfNums e0.nm) := ⟨_, rfl⟩
            obtain ⟨N1, hN1⟩ : ∃ z, RowKit.Hid (z = strOfNums e1.nm) := ⟨_, rfl⟩
            have hcl : RowKit.Hid (∀ w', Vr Gv w' av V → w'.cell? ⟨gv, ov, none⟩ = some (.string N0) ∧ w'.cell? ⟨gv, ov + 2, none⟩ = some (.int .i64 (n0 : Int)) ∧ w'.cell? ⟨gv, ov + 3, none⟩ = some (.string N1) ∧ w'.cell? ⟨gv, ov + 3 + 2, none⟩ = some (.int .i64 (n1 : Int))) := fun w' hv => by
              obtain ⟨g2, o2, ea2, -, a0, -, a2⟩ := hv 0 e0 he0
              rw [ea] at ea2
              injection ea2 with ea2
              injection ea2 with i1 i2
              subst i1; subst i2
              obtain ⟨g3, o3, ea3, -, b0, -, b2⟩ := hv 1 e1 he1
              rw [ea] at ea3
              injection ea3 with ea3
              injection ea3 with i1 i2
              subst i1; subst i2
              rw [← hn0, ← hn1, hN0.out, hN1.out]
              exact ⟨by simpa using a0, by simpa using a2, by simpa using b0, by simpa using b2⟩
            have hsz0 : (strOfNums e0.nm).size ≤ 9223372036854775807 := by have := hel0.1.nm; rw [strOfNums_size]; omega
            have hsz1 : (strOfNums e1.nm).size ≤ 9223372036854775807 := by have := hel1.1.nm; rw [strOfNums_size]; omega
            have hb0 : n0 ≤ 64 ∧ f0 + n0 ≤ N := by have := hel0.1.fn; have := hel0.1.f; have := hNb.out; omega
            have hb1 : n1 ≤ 64 ∧ f1 + n1 ≤ N := by have := hel1.1.fn; have := hel1.1.f; have := hNb.out; omega
            have r1 : readS l s N1 0 (n1 : Int) = (rdL l f1 n1, 0) := by
              unfold readS
              rw [hN1.out, ← hn1, p1, hf1, if_pos rfl, hn1]; rfl
            obtain ⟨L2, hL2⟩ : ∃ z, z = wrL l f0 n0 (nums data) := ⟨_, rfl⟩
            have r2 : writeS l s N0 0 (n0 : Int) data = ⟨L2, s, 0⟩ := by
              unfold writeS
              rw [hN0.out, ← hn0, p0, hf0, if_pos rfl, hn0, hL2]; rfl
            have hsame : rdL L2 f1 n1 = rdL l f1 n1 := by
              rw [hL2]
              refine rd_other (by rw [hds.out.len]; omega) ?_
              unfold apart at hap
              rw [Bool.and_eq_true, Bool.or_eq_true, hf0, hf1, hn0, hn1] at hap
              rcases hap.2 with h3 | h3
              · have := of_decide_eq_true h3; omega
              · have := of_decide_eq_true h3; omega
            have r3 : readS L2 s N1 0 (n1 : Int) = (rdL l f1 n1, 0) := by
              unfold readS
              rw [hN1.out, ← hn1, p1, hf1, if_pos rfl, hn1]
              show (rdL L2 f1 n1, (0 : Int)) = _
              rw [hsame]
            obtain ⟨X, hX⟩ : ∃ z, z = strOfNums (rdL l f1 n1) := ⟨_, rfl⟩
            rw [← hN0.out] at hsz0
            rw [← hN1.out] at hsz1
            have t1 := fun (w' : World) (h : Vf SV G w w' q p N l s) => vf_read H h N1 0 n1 hsz1 (i64 0) (by unfold I64; omega)
            rw [r1, ← hX] at t1
            have t2 := fun (w' : World) (h : Vf SV G w w' q p N l s) => vf_write H h N0 0 n0 data hsz0 (i64 0) (by unfold I64; omega) hdi.out
            rw [r2] at t2
            have t3 := fun (w' : World) (h : Vf SV G w w' q p N L2 s) => vf_read H h N1 0 n1 hsz1 (i64 0) (by unfold I64; omega)
            rw [r3, ← hX] at t3
            have t1 : RowKit.Hid (∀ w', Vf SV G w w' q p N l s → Calls Tryz.prog 12 #[Ptr q, .string N1, .int .i64 0, .int .i64 (n1 : Int)] w' fun e w2 => e = .returned (.tuple #[.string X, .int .i64 0]) ∧ Vf SV G w w2 q p N l s ∧ Keep (fun _ => False) w' w2) := t1
            have t2 : RowKit.Hid (∀ w', Vf SV G w w' q p N l s → Calls Tryz.prog 27 #[Ptr q, .string N0, .int .i64 0, .int .i64 (n0 : Int), .string data] w' fun e w2 => e = .returned (.int .i64 0) ∧ Vf SV G w w2 q p N L2 s ∧ Keep (Oth G w) w' w2) := t2
            have t3 : RowKit.Hid (∀ w', Vf SV G w w' q p N L2 s → Calls Tryz.prog 12 #[Ptr q, .string N1, .int .i64 0, .int .i64 (n1 : Int)] w' fun e w2 => e = .returned (.tuple #[.string X, .int .i64 0]) ∧ Vf SV G w w2 q p N L2 s ∧ Keep (fun _ => False) w' w2) := t3
            have hGo : RowKit.Hid (∀ x, Gv x → ¬ Oth G w x) := fun x hx e => e.2 (hGG.out.1 x hx)
            have hml : RowKit.Hid ((lst s).length = m) := by show _ = _; rw [← hVV.out]; exact hm.out.1.symm
            have hm1 : (1 : Int) < m := by omega
            have hm0' : (0 : Int) < m := by omega
            have hm0n : 0 < m := by omega
            have hm1n : 1 < m := by omega
            clear he0 he1 he0' he1' hel0 hel1 p0 p1 hap hgvx hf0 hf1 hn0 hn1 hsz0 hsz1 hb0 hb1 r1 r2 r3 hsame hL2 hX hN0 hN1 cf hm hVV hds hNb hdi hGG
            subst ea
            go_upto_region 36 with fail
            obtain ⟨wr, hwr⟩ : ∃ z, z = w7 := ⟨_, rfl⟩
            rw [← hwr] at M7 ⊢
            clear hwr w7
            have hrd : RowKit.Hid (∀ w', Keep (Oth G w) wr w' → _) := fun w' k => hcl.out w' (M7.out.1.keep k hGo.out)
            have hr1 : RowKit.Hid (∀ w', Keep (fun _ => False) wr w' → _) := fun w' k => t1.out w' (M7.out.2.more H k)
            refine wp_region_noPanic ?_
            refine wp_region_held_drew (S := fun w' => Keep (Oth G w) wr w') (by kernel_rfl) ((Keep.refl _ _).drew) (fun hH0 => ?_)
            refine tk 0 hH0 ?_
            refine tk 1 hH0 ?_
            refine tk 2 hH0 ?_
            refine tk 3 hH0 ?_
            refine tk 4 hH0 ?_ (hy := Or.inl ⟨by rfl, by intro w' hSw; have z : w'.cell? ⟨gv, ov + 3, none⟩ = some (.string N1) := (hrd.out w' hSw).2.2.1; have z' : w'.cell? ⟨gv, ov + 3, none⟩ = some (.string N1) := z; clear hSw; go_simp; try with_reducible rfl⟩)
            refine tk 5 hH0 ?_
            refine tk 6 hH0 ?_
            refine tk 7 hH0 ?_
            refine tk 8 hH0 ?_ (hy := Or.inl ⟨by rfl, by intro w' hSw; have z : w'.cell? ⟨gv, ov + 3 + 2, none⟩ = some (.int .i64 (n1 : Int)) := (hrd.out w' hSw).2.2.2; have z' : w'.cell? ⟨gv, ov + 5, none⟩ = some (.int .i64 (n1 : Int)) := z; clear hSw; go_simp; try with_reducible rfl⟩)
            refine rd 9 (fun K hK => ?_)
            refine step_call_want (vs := #[Ptr q, .string N1, .int .i64 0, .int .i64 (n1 : Int)]) (R := fun v wz => v = .tuple #[.string X, .int .i64 0] ∧ Vf SV G w wz q p N l s ∧ Keep (Oth G w) (wr.drew) wz) (by rfl) 12 _ _ rfl (by simp [Act.eval]) gcRead ((hr1.out (wr.drew) ((Keep.refl _ _).drew)).mono (by rintro e wz ⟨rfl, v2, k⟩; exact ⟨_, rfl, rfl, v2, k.mono (fun _ _ e => e.elim)⟩)) ?_
            rintro v wc ⟨rfl, vc, kc⟩
            refine hK.out _ _ ((((Keep.refl _ _).drew).trans kc)) (fun hH1 => ?_)
            clear hK K
            simp only [Act.put, List.setIfInBounds_toArray, List.set_cons_zero, List.set_cons_succ]
            refine tk 10 hH1 ?_
            refine tk 11 hH1 ?_
            refine tk 12 hH1 ?_
            refine tk 13 hH1 ?_
            refine tk 14 hH1 ?_
            refine wpAnyH_done (by kernel_rfl) ?_ _
            refine NoPanic.normal ?_
            have M8 : RowKit.Hid (Vr Gv wc (some ⟨gv, ov, none⟩) V ∧ Vf SV G w wc q p N l s) := ⟨M7.out.1.keep (((Keep.refl _ _).drew).trans kc) hGo.out, vc⟩
            clear kc vc hH0 hH1 hrd hr1 M7 t1
            go_upto_region 37 with fail
            obtain ⟨wr, hwr⟩ : ∃ z, z = wc := ⟨_, rfl⟩
            rw [← hwr] at M8 ⊢
            clear hwr
            have hrd : RowKit.Hid (∀ w', Keep (Oth G w) wr w' → _) := fun w' k => hcl.out w' (M8.out.1.keep k hGo.out)
            have hw1 : RowKit.Hid (∀ w', Keep (fun _ => False) wr w' → _) := fun w' k => t2.out w' (M8.out.2.more H k)
            refine wp_region_noPanic ?_
            refine wp_region_held_drew (S := fun w' => Keep (Oth G w) wr w') (by kernel_rfl) ((Keep.refl _ _).drew) (fun hH0 => ?_)
            refine tk 0 hH0 ?_
            refine tk 1 hH0 ?_
            refine tk 2 hH0 ?_
            refine tk 3 hH0 ?_
            refine tk 4 hH0 ?_ (hy := Or.inl ⟨by rfl, by intro w' hSw; have z : w'.cell? ⟨gv, ov, none⟩ = some (.string N0) := (hrd.out w' hSw).1; have z' : w'.cell? ⟨gv, ov, none⟩ = some (.string N0) := z; clear hSw; go_simp; try with_reducible rfl⟩)
            refine tk 5 hH0 ?_
            refine tk 6 hH0 ?_
            refine tk 7 hH0 ?_
            refine tk 8 hH0 ?_ (hy := Or.inl ⟨by rfl, by intro w' hSw; have z : w'.cell? ⟨gv, ov + 2, none⟩ = some (.int .i64 (n0 : Int)) := (hrd.out w' hSw).2.1; have z' : w'.cell? ⟨gv, ov + 2, none⟩ = some (.int .i64 (n0 : Int)) := z; clear hSw; go_simp; try with_reducible rfl⟩)
            refine tk 9 hH0 ?_
            refine rd 10 (fun K hK => ?_)
            refine step_call_want (vs := #[Ptr q, .string N0, .int .i64 0, .int .i64 (n0 : Int), .string data]) (R := fun v wz => v = .int .i64 0 ∧ Vf SV G w wz q p N L2 s ∧ Keep (Oth G w) (wr.drew) wz) (by rfl) 27 _ _ rfl (by simp [Act.eval]) gcWrite ((hw1.out (wr.drew) ((Keep.refl _ _).drew)).mono (by rintro e wz ⟨rfl, v2, k⟩; exact ⟨_, rfl, rfl, v2, k⟩)) ?_
            rintro v wc ⟨rfl, vc, kc⟩
            refine hK.out _ _ ((((Keep.refl _ _).drew).trans kc)) (fun hH1 => ?_)
            clear hK K
            simp only [Act.put, List.setIfInBounds_toArray, List.set_cons_zero, List.set_cons_succ]
            refine tk 11 hH1 ?_
            refine wpAnyH_done (by kernel_rfl) ?_ _
            refine NoPanic.normal ?_
            have M9 : RowKit.Hid (Vr Gv wc (some ⟨gv, ov, none⟩) V ∧ Vf SV G w wc q p N L2 s) := ⟨M8.out.1.keep (((Keep.refl _ _).drew).trans kc) hGo.out, vc⟩
            clear kc vc hH0 hH1 hrd hw1 M8 t2
            go_upto_region 38 with fail
            obtain ⟨wr, hwr⟩ : ∃ z, z = wc := ⟨_, rfl⟩
            rw [← hwr] at M9 ⊢
            clear hwr
            have hrd : RowKit.Hid (∀ w', Keep (Oth G w) wr w' → _) := fun w' k => hcl.out w' (M9.out.1.keep k hGo.out)
            have hr2 : RowKit.Hid (∀ w', Keep (fun _ => False) wr w' → _) := fun w' k => t3.out w' (M9.out.2.more H k)
            refine wp_region_noPanic ?_
            refine wp_region_held_drew (S := fun w' => Keep (Oth G w) wr w') (by kernel_rfl) ((Keep.refl _ _).drew) (fun hH0 => ?_)
            refine tk 0 hH0 ?_
            refine tk 1 hH0 ?_
            refine tk 2 hH0 ?_
            refine tk 3 hH0 ?_
            refine tk 4 hH0 ?_ (hy := Or.inl ⟨by rfl, by intro w' hSw; have z : w'.cell? ⟨gv, ov + 3, none⟩ = some (.string N1) := (hrd.out w' hSw).2.2.1; have z' : w'.cell? ⟨gv, ov + 3, none⟩ = some (.string N1) := z; clear hSw; go_simp; try with_reducible rfl⟩)
            refine tk 5 hH0 ?_
            refine tk 6 hH0 ?_
            refine tk 7 hH0 ?_
            refine tk 8 hH0 ?_ (hy := Or.inl ⟨by rfl, by intro w' hSw; have z : w'.cell? ⟨gv, ov + 3 + 2, none⟩ = some (.int .i64 (n1 : Int)) := (hrd.out w' hSw).2.2.2; have z' : w'.cell? ⟨gv, ov + 5, none⟩ = some (.int .i64 (n1 : Int)) := z; clear hSw; go_simp; try with_reducible rfl⟩)
            refine rd 9 (fun K hK => ?_)
            refine step_call_want (vs := #[Ptr q, .string N1, .int .i64 0, .int .i64 (n1 : Int)]) (R := fun v wz => v = .tuple #[.string X, .int .i64 0] ∧ Vf SV G w wz q p N L2 s ∧ Keep (Oth G w) (wr.drew) wz) (by rfl) 12 _ _ rfl (by simp [Act.eval]) gcRead ((hr2.out (wr.drew) ((Keep.refl _ _).drew)).mono (by rintro e wz ⟨rfl, v2, k⟩; exact ⟨_, rfl, rfl, v2, k.mono (fun _ _ e => e.elim)⟩)) ?_
            rintro v wc ⟨rfl, vc, kc⟩
            refine hK.out _ _ ((((Keep.refl _ _).drew).trans kc)) (fun hH1 => ?_)
            clear hK K
            simp only [Act.put, List.setIfInBounds_toArray, List.set_cons_zero, List.set_cons_succ]
            refine tk 10 hH1 ?_
            refine tk 11 hH1 ?_
            refine tk 12 hH1 ?_
            refine tk 13 hH1 ?_
            refine tk 14 hH1 ?_
            refine wpAnyH_done (by kernel_rfl) ?_ _
            refine NoPanic.normal ?_
            have hvs := vf_vols H vc
            have V10 : RowKit.Hid (Vf SV G w wc q p N L2 s) := vc
            clear kc vc hH0 hH1 hrd hr2 M9 t3 hcl hGo
            go_wp2_with fail
            refine hvs.mono ?_
            rintro e w9 ⟨av2, cc2, m9, rfl, hm9, R9⟩
            have e9 : m9 = m := hm9.trans hml.out
            subst e9
            have hK : RowKit.Hid (Keep (fun _ => False) w w9) := V10.out.kp.trans R9.keep
            clear hvs hm9 R9 V10
            go_wp2_with fail
            go_ret
            exact ⟨rfl, hK⟩
        · have hlt : (i : Int) < m := by have := hi.out.1; omega
          obtain ⟨e, he⟩ : ∃ e, V[i]? = some e := ⟨_, List.getElem?_eq_getElem (by have := hm.out.1; have := hi.out.1; omega)⟩
          have he' : RowKit.Hid ((lst s)[i]? = some e) := by show _ = _; rw [← hVV.out]; exact he
          have hel := hds.out.sp.el he'.out
          have hef := hel.1.f; have hen := hel.1.n; have hefn := hel.1.fn; have hN5 := hNb.out.2
          have hgn := hel.1.nm
          obtain ⟨gv, ov, ea, hgvx, -⟩ := hM.out.1 i e he
          have hrd0 : ∀ w', Keep (fun _ => False) wr w' → RowKit.Hid (w'.cell? ⟨gv, ov + i * 3, none⟩ = some (.string (strOfNums e.nm)) ∧ w'.cell? ⟨gv, ov + i * 3 + 1, none⟩ = some (.int .i64 e.f) ∧ w'.cell? ⟨gv, ov + i * 3 + 2, none⟩ = some (.int .i64 e.n)) := fun w' k => by
            obtain ⟨g2, o2, ea2, -, z⟩ := (hM.out.1.keep k (fun _ _ e => e)) i e he
            rw [ea] at ea2
            injection ea2 with ea2
            injection ea2 with e1 e2
            subst e1; subst e2
            exact z
          have hgood := fun w => H.good (strOfNums e.nm) (by rw [strOfNums_size]; omega) w
          rw [hel.2] at hgood
          have hgood : ∀ w, Calls Tryz.prog 15 #[.string (strOfNums e.nm)] w fun e w' => e = .returned (.bool true) ∧ Keep (fun _ => False) w w' := hgood
          have hst := lensF_take he
          have hnx := used_next he
          obtain ⟨ef, hefe⟩ : ∃ z : Nat, e.f = (z : Int) := ⟨e.f.toNat, by omega⟩
          obtain ⟨en, hene⟩ : ∃ z : Nat, e.n = (z : Int) := ⟨e.n.toNat, by omega⟩
          obtain ⟨NM, hNM⟩ : ∃ z, RowKit.Hid (z = strOfNums e.nm) := ⟨_, rfl⟩
          rw [hefe, hene, ← hNM.out] at hrd0
          rw [← hNM.out] at hgood
          have hrd : RowKit.Hid (∀ w', Keep (fun _ => False) wr w' → w'.cell? ⟨gv, ov + i * 3, none⟩ = some (.string NM) ∧ w'.cell? ⟨gv, ov + i * 3 + 1, none⟩ = some (.int .i64 (ef : Int)) ∧ w'.cell? ⟨gv, ov + i * 3 + 2, none⟩ = some (.int .i64 (en : Int))) := fun w' k => (hrd0 w' k).out
          have x1 : decide ((ef : Int) < 8) = false := decide_eq_false (by omega)
          have x2 : decide ((en : Int) < 1) = false := decide_eq_false (by omega)
          have x3 := wrapI (x := (N : Int) - en) (by omega) (by omega)
          have x4 : decide ((ef : Int) > N - en) = false := decide_eq_false (by omega)
          have hbe : RowKit.Hid (8 ≤ ef ∧ 1 ≤ en ∧ ef + en ≤ N ∧ N ≤ 64) := by show _ ∧ _ ∧ _ ∧ _; omega
          have hil : RowKit.Hid (i + 1 ≤ m) := by have := hi.out.1; show _ ≤ _; omega
          have hF1 : RowKit.Hid (F - en = N - 8 - lensF (V.take (i + 1))) := by have := hi.out.2; show _ = _; omega
          have hFb := lensF_bd (l := V.take i) (N := N) (fun y hy => by
            rw [hVV.out] at hy
            obtain ⟨k, hk, hs⟩ := mem_lst.1 (List.mem_of_mem_take hy)
            exact (hds.out.sp.ok k y hk hs).1)
          have hFl : ((V.take i).length : Int) * N ≤ 8 * 64 := by
            have h5 := hm.out
            have : (V.take i).length ≤ 8 := by rw [List.length_take]; omega
            exact_mod_cast Nat.mul_le_mul this hN5
          have x5 : RowKit.Hid (IntKind.i64.wrap (F - en) = F - en) := wrapI (by have := hi.out.2; omega) (by have := hi.out.2; omega)
          have hnx' : RowKit.Hid (∀ j : Nat, usedV (V.take (i + 1)) j = (usedV (V.take i) j || decide (ef ≤ j ∧ j < ef + en))) := fun j => by
            rw [hnx j, hefe, hene]
            congr 1
            simp only [decide_eq_decide]
            omega
          have hfree : RowKit.Hid (∀ j : Nat, ef ≤ j → j < ef + en → usedV (V.take i) j = false) := fun j h1 h2 => by
            rw [hVV.out]
            exact hds.out.sp.free he'.out (by omega)
          have hMm : RowKit.Hid (Vr Gv wr av V ∧ Blk wr gu N (fun j => .bool (usedV (V.take i) j)) ∧ Vf SV G w wr q p N l s) := hM
          have hea : RowKit.Hid (av = some ⟨gv, ov, none⟩ ∧ Gv gv) := ⟨ea, hgvx⟩
          have hcell : RowKit.Hid (∀ w', Vr Gv w' av V → w'.cell? ⟨gv, ov + i * 3, none⟩ = some (.string NM) ∧ w'.cell? ⟨gv, ov + i * 3 + 1, none⟩ = some (.int .i64 (ef : Int)) ∧ w'.cell? ⟨gv, ov + i * 3 + 2, none⟩ = some (.int .i64 (en : Int))) := fun w' hv => by
            obtain ⟨g2, o2, ea2, -, z⟩ := hv i e he
            rw [ea] at ea2
            injection ea2 with ea2
            injection ea2 with e1 e2
            subst e1; subst e2
            rw [← hefe, ← hene, hNM.out]
            exact z
          have hoth : RowKit.Hid (∀ w', Vr Gv w' av V → ∀ k : Nat, k < i → ∃ y : ByteArray, w'.cell? ⟨gv, ov + k * 3, none⟩ = some (.string y) ∧ y ≠ NM) := fun w' hv k hk => by
            obtain ⟨e2, he2⟩ : ∃ e2, V[k]? = some e2 := ⟨_, List.getElem?_eq_getElem (by have := (List.getElem?_eq_some_iff.1 he).1; omega)⟩
            obtain ⟨g2, o2, ea2, -, z, -⟩ := hv k e2 he2
            rw [ea] at ea2
            injection ea2 with ea2
            injection ea2 with e1 e3
            subst e1; subst e3
            refine ⟨_, z, fun hq => ?_⟩
            have hap := hds.out.sp.pair hk (by rw [← hVV.out]; exact he2) he'.out
            unfold apart at hap
            rw [decide_eq_false (by intro x; exact x (by rw [hq, hNM.out]))] at hap
            cases hap
          clear hi him he hel hef hen hefn hN5 hgn hrd0 hst hnx hefe hene hFb hFl hM hgvx
          subst ea
          go_upto_region 20 with fail
          obtain ⟨w1', hw1'⟩ : ∃ z, RowKit.Hid (z = wr) := ⟨_, rfl⟩
          refine wp_region_noPanic ?_
          refine wp_region_held_drew (S := fun w' => Keep (fun _ => False) wr w') (by kernel_rfl) ((Keep.refl _ _).drew) (fun hH0 => ?_)
          refine tk 0 hH0 ?_
          refine tk 1 hH0 ?_
          refine tk 2 hH0 ?_
          refine tk 3 hH0 ?_
          refine tk 4 hH0 ?_ (hy := Or.inl ⟨by rfl, by intro w' hSw; have z : w'.cell? ⟨gv, ov + i * 3, none⟩ = some (.string NM) := (hrd.out w' hSw).1; clear hSw; go_simp; try with_reducible rfl⟩)
          refine rd 5 (fun K hK => ?_)
          refine step_call_want (vs := #[.string NM]) (R := fun v wz => v = .bool true ∧ Keep (fun _ => False) (wr.drew) wz) (by rfl) 15 _ _ rfl (by simp [Act.eval]) gcGood ((hgood (wr.drew)).mono (by rintro e wz ⟨rfl, k⟩; exact ⟨_, rfl, rfl, k⟩)) ?_
          rintro v wc ⟨rfl, kc⟩
          refine hK.out _ _ ((((Keep.refl _ _).drew).trans kc)) (fun hH1 => ?_)
          clear hK K
          simp only [Act.put, List.setIfInBounds_toArray, List.set_cons_zero, List.set_cons_succ]
          refine tk 6 hH1 ?_
          refine tk 7 hH1 ?_
          refine tk 8 hH1 ?_
          refine tk 9 hH1 ?_
          refine tk 10 hH1 ?_
          refine tk 11 hH1 ?_
          refine tk 12 hH1 ?_ (hy := Or.inl ⟨by rfl, by intro w' hSw; have z : w'.cell? ⟨gv, ov + i * 3 + 1, none⟩ = some (.int .i64 (ef : Int)) := (hrd.out w' hSw).2.1; clear hSw; go_simp; try with_reducible rfl⟩)
          refine tk 13 hH1 ?_
          refine tk 14 hH1 ?_
          refine tk 15 hH1 ?_
          refine tk 16 hH1 ?_
          refine tk 17 hH1 ?_
          refine tk 18 hH1 ?_
          refine tk 19 hH1 ?_
          refine tk 20 hH1 ?_ (hy := Or.inl ⟨by rfl, by intro w' hSw; have z : w'.cell? ⟨gv, ov + i * 3 + 2, none⟩ = some (.int .i64 (en : Int)) := (hrd.out w' hSw).2.2; clear hSw; go_simp; try with_reducible rfl⟩)
          refine tk 21 hH1 ?_
          refine tk 22 hH1 ?_
          refine tk 23 hH1 ?_
          refine tk 24 hH1 ?_
          refine tk 25 hH1 ?_
          refine tk 26 hH1 ?_
          refine tk 27 hH1 ?_
          refine tk 28 hH1 ?_ (hy := Or.inl ⟨by rfl, by intro w' hSw; have z : w'.cell? ⟨gv, ov + i * 3 + 1, none⟩ = some (.int .i64 (ef : Int)) := (hrd.out w' hSw).2.1; clear hSw; go_simp; try with_reducible rfl⟩)
          refine tk 29 hH1 ?_
          refine tk 30 hH1 ?_
          refine tk 31 hH1 ?_
          refine tk 32 hH1 ?_
          refine tk 33 hH1 ?_
          refine tk 34 hH1 ?_ (hy := Or.inl ⟨by rfl, by intro w' hSw; have z : w'.cell? ⟨gv, ov + i * 3 + 2, none⟩ = some (.int .i64 (en : Int)) := (hrd.out w' hSw).2.2; clear hSw; go_simp; try with_reducible rfl⟩)
          refine tk 35 hH1 ?_
          refine tk 36 hH1 ?_
          refine tk 37 hH1 ?_
          refine wpAnyH_done (by kernel_rfl) ?_ _
          refine NoPanic.normal ?_
          have kw : RowKit.Hid (Keep (fun _ => False) wr wc) := (((Keep.refl _ _).drew).trans kc)
          have M1 : RowKit.Hid (Vr Gv wc (some ⟨gv, ov, none⟩) V ∧ Blk wc gu N (fun j => .bool (usedV (V.take i) j || decide (ef ≤ j ∧ j < ef + 0))) ∧ Vf SV G w wc q p N l s) := ⟨hMm.out.1.keep kw.out (fun _ _ e => e), (hMm.out.2.1.keep kw.out (fun e => e)).congr (fun j _ => by
            rw [decide_eq_false (by omega), Bool.or_false]), hMm.out.2.2.more H kw.out⟩
          have z2 := (hcell.out wc M1.out.1).2.2
          have hx5 := x5.out
          clear kw hMm hrd x1 x2 x3 x4 x5 hgood kc hH0 hH1
          go_upto_region 23 with fail
          clear hx5 z2
          go_wp2_with fail
          go_loopw [17] (fun kv wx => ∃ k : Nat, kv = .int .i64 (k : Int) ∧ RowKit.Hid (k ≤ en) ∧ RowKit.Hid (Vr Gv wx (some ⟨gv, ov, none⟩) V ∧ Blk wx gu N (fun j => .bool (usedV (V.take i) j || decide (ef ≤ j ∧ j < ef + k))) ∧ Vf SV G w wx q p N l s)) (fun kv _ => en - (intOf kv).toNat)
          case atStart => exact ⟨0, rfl, by show 0 ≤ en; omega, M1⟩
          case round =>
            clear M1
            obtain ⟨k, rfl, hk, hM⟩ := hrel
            have zz := hcell.out wr hM.out.1
            obtain ⟨-, z1, z2⟩ := zz
            by_cases hke : k = en
            · have hge : ¬ (k : Int) < en := by omega
              have M2 : RowKit.Hid (Vr Gv wr (some ⟨gv, ov, none⟩) V ∧ Blk wr gu N (fun j => .bool (usedV (V.take (i + 1)) j)) ∧ Vf SV G w wr q p N l s) := ⟨hM.out.1, hM.out.2.1.congr (fun j _ => by
                rw [hnx'.out j, hke]), hM.out.2.2⟩
              clear hk hM hke hnx' hfree z1
              go_wp2_with fail
              clear z2 hge
              go_loopw [18] (fun kv wx => ∃ k : Nat, kv = .int .i64 (k : Int) ∧ RowKit.Hid (k ≤ i) ∧ RowKit.Hid (Vr Gv wx (some ⟨gv, ov, none⟩) V ∧ Blk wx gu N (fun j => .bool (usedV (V.take (i + 1)) j)) ∧ Vf SV G w wx q p N l s)) (fun kv _ => i - (intOf kv).toNat)
              case atStart => exact ⟨0, rfl, by show 0 ≤ i; omega, M2⟩
              case round =>
                clear M2
                obtain ⟨k2, rfl, hk2, hM⟩ := hrel
                by_cases hki : k2 = i
                · have hge : ¬ (k2 : Int) < i := by omega
                  have hwi : IntKind.i64.wrap ((i : Int) + 1) = ((i + 1 : Nat) : Int) := by rw [show (i : Int) + 1 = ((i + 1 : Nat) : Int) by omega]; exact wrapI (by omega) (by have := hm.out.2; have := hil.out; omega)
                  have hin : RowKit.Hid (i + 1 ≤ m ∧ F - en = N - 8 - lensF (V.take (i + 1))) := ⟨hil.out, hF1.out⟩
                  clear hk2 hki hcell hoth hF1
                  go_wp2_with fail
                  go_roundw
                  case rel => exact ⟨i + 1, _, rfl, rfl, hin, hM⟩
                  case measure => have := hil.out; simp [intOf]; omega
                · have hlt2 : (k2 : Int) < i := by have h5 : k2 ≤ i := hk2; omega
                  obtain ⟨y, zy, hne⟩ := hoth.out wr hM.out.1 k2 (by have h5 : k2 ≤ i := hk2; omega)
                  have zn := (hcell.out wr hM.out.1).1
                  have hq1 : (y.toList == NM.toList) = false := by rw [ba_eq, decide_eq_false hne]
                  have hki2 : RowKit.Hid (k2 + 1 ≤ i) := by have h5 : k2 ≤ i := hk2; show _ ≤ _; omega
                  have hwk : IntKind.i64.wrap ((k2 : Int) + 1) = ((k2 + 1 : Nat) : Int) := by rw [show (k2 : Int) + 1 = ((k2 + 1 : Nat) : Int) by omega]; exact wrapI (by omega) (by have := hm.out.2; have := hil.out; omega)
                  have hkm : (k2 : Int) < m := by have := hil.out; have := hki2.out; omega
                  have hMM : ∀ z, RowKit.Hid (Vr Gv (wr.drewN z) (some ⟨gv, ov, none⟩) V ∧ Blk (wr.drewN z) gu N (fun j => .bool (usedV (V.take (i + 1)) j)) ∧ Vf SV G w (wr.drewN z) q p N l s) := fun z => by
                    have kd : Keep (fun _ => False) wr (wr.drewN z) := (Keep.refl _ _).drewN z
                    exact ⟨hM.out.1.keep kd (fun _ _ e => e), hM.out.2.1.keep kd (fun e => e), hM.out.2.2.more H kd⟩
                  clear hk2 hki hcell hoth hF1 hM hne
                  go_upto_region 32 with fail
                  go_quiet (fail)
                  go_wp2_with fail
                  go_roundw
                  case rel => exact ⟨k2 + 1, rfl, hki2, hMM _⟩
                  case measure => have := hki2.out; simp [intOf]; omega
            · have hlt2 : (k : Int) < en := by have h5 : k ≤ en := hk; omega
              obtain ⟨K, hKK⟩ : ∃ z : Nat, RowKit.Hid (z = ef + k) := ⟨_, rfl⟩
              have hw1 : IntKind.i64.wrap ((ef : Int) + k) = (K : Int) := by rw [show (ef : Int) + k = (K : Int) by rw [hKK.out]; omega]; exact wrapI (by omega) (by rw [hKK.out]; have := hbe.out; omega)
              have hKN : (K : Int) < N := by rw [hKK.out]; have := hbe.out; omega
              have hKN2 : K < N := by omega
              have zu : wr.cell? ⟨gu, K, none⟩ = some (.bool false) := by
                have e0 := hfree.out K (by rw [hKK.out]; omega) (by rw [hKK.out]; have h5 : k ≤ en := hk; omega)
                have e1 : decide (ef ≤ K ∧ K < ef + k) = false := decide_eq_false (by rw [hKK.out]; omega)
                rw [(hM.out.2.1 K hKN2).1]
                show some (Value.bool (usedV (V.take i) K || decide (ef ≤ K ∧ K < ef + k))) = _
                rw [e0, e1]; rfl
              have zf : wr.frozen? ⟨gu, K, none⟩ = false := (hM.out.2.1 K hKN2).2
              have hwk : IntKind.i64.wrap ((k : Int) + 1) = ((k + 1 : Nat) : Int) := by rw [show (k : Int) + 1 = ((k + 1 : Nat) : Int) by omega]; exact wrapI (by omega) (by have := hbe.out; have h5 : k ≤ en := hk; omega)
              have hke2 : RowKit.Hid (k + 1 ≤ en) := by have h5 : k ≤ en := hk; show _ ≤ _; omega
              have ks : Keep (fun b => b = gu) wr (wr.setCell ⟨gu, K, none⟩ (.bool true)) := Keep.setCell (S := fun b => b = gu) (Keep.refl _ _) (p := ⟨gu, K, none⟩) (Or.inl rfl) _
              have hM2 : RowKit.Hid (Vr Gv (wr.setCell ⟨gu, K, none⟩ (.bool true)) (some ⟨gv, ov, none⟩) V ∧ Blk (wr.setCell ⟨gu, K, none⟩ (.bool true)) gu N (fun j => .bool (usedV (V.take i) j || decide (ef ≤ j ∧ j < ef + (k + 1)))) ∧ Vf SV G w (wr.setCell ⟨gu, K, none⟩ (.bool true)) q p N l s) := by
                refine ⟨hM.out.1.keep ks (fun x hx => hgv.out x hx), (hM.out.2.1.set K (.bool true)).congr (fun j _ => ?_), hM.out.2.2.else H ks (fun x hx => by rw [hx]; exact ⟨hGG.out.2.2, hGG.out.2.1⟩)⟩
                show (if j = K then Value.bool true else _) = _
                by_cases c : j = K
                · rw [if_pos c, decide_eq_true (by rw [c, hKK.out]; omega), Bool.or_true]
                · rw [if_neg c]
                  have : decide (ef ≤ j ∧ j < ef + k) = decide (ef ≤ j ∧ j < ef + (k + 1)) := by
                    rw [decide_eq_decide]; rw [hKK.out] at c; omega
                  rw [this]
              clear hk hM hke hnx' hfree hKK ks hcell hoth hF1 hbe
              go_wp2_with fail
              go_roundw
              case rel => exact ⟨k + 1, rfl, hke2, hM2⟩
              case measure => have := hke2.out; simp [intOf]; omega
    · have hlt : (i : Int) < len := by have := hi.out; show _ < _; exact_mod_cast Nat.lt_of_le_of_ne this him
      rcases hac'.out.1.2.2 with h0 | ⟨ga, oa, ea, hc⟩
      · exfalso; have := hi.out; omega
      · obtain ⟨x, hx, hcw⟩ := hc i (by have := hi.out; omega)
        have hcx : ∀ j, j < 6 → wr.cell? ⟨ga, oa + i * 6 + j, none⟩ = some (acC x j) := fun j hj => by
          rw [← hcw j hj]
          exact World.cell?_of_block (a := ⟨ga, oa + i * 6 + j, none⟩) (hV.out.kp.block ga (World.block_lt_of_cell? w _ (hcw j hj)) (fun e => e))
        have hld := load43_at hcx
        have hst := step25 H hV.out x hx
        obtain ⟨P, hP⟩ : ∃ P, P = stepS N l s x := ⟨_, rfl⟩
        rw [← hP] at hst
        obtain ⟨⟨l', s', er⟩, rd⟩ := P
        have hst : Calls Tryz.prog 22 #[Ptr q, .agg (acA x)] wr fun e w' => e = .returned (.tuple #[.string (strOfNums rd), .int .i64 er]) ∧ Vf SV (fun _ => False) w w' q p N l' s' ∧ Keep (Oth (fun _ => False) w) wr w' := hst
        have hil : RowKit.Hid (i + 1 ≤ len ∧ len ≤ 25) := ⟨by have := hi.out; omega, hac'.out.2.1⟩
        have hdi : IntKind.i64.wrap ((i : Int) + 1) = ((i + 1 : Nat) : Int) := by rw [show (i : Int) + 1 = ((i + 1 : Nat) : Int) by omega]; exact wrapI (by omega) (by have := hil.out; omega)
        generalize acA x = AX at *
        generalize strOfNums rd = RD at *
        clear hP hi him hc hcw hcx hx hV hac'
        subst ea
        go_wp2_with (guard_target =~ wpList _ _ _ (Oper.mk _ (Op.load 43 _) _ _ _ _ :: _) _ _; refine wpList_load_run (by rfl) 43 (.tmp 66) rfl (by rfl) hld ?_)
        refine hst.mono ?_
        rintro e w5 ⟨rfl, V5, -⟩
        have V5' : RowKit.Hid (Vf SV (fun _ => False) w w5 q p N l' s') := V5
        clear hst V5 hld
        go_wp2_with fail
        go_roundw
        case rel => exact ⟨i + 1, l', s', rfl, by show i + 1 ≤ len; exact hil.out.1, V5'⟩
        case measure => have := hil.out; simp [intOf]; omega
end
end Tg
end Go.Proofs.YtjgnajopomadpaaGreat
