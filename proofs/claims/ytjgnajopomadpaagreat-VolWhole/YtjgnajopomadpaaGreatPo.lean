/-
  The document's own Clone.
-/
import Derived.Test.YtjgnajopomadpaaGreatPn
namespace Go.Proofs.YtjgnajopomadpaaGreat
open Go.ChangeShapes Go.WideShapes Go.ChangeAt Go.RowKit
namespace Tg
open Qm
def cloneL (N : Nat) (l : List Int) (s t : ByteArray) : List Int × Int := match volOf (volL N l) s with
  | none => (l, 4)
  | some x => if goodS (bs t) = false then (l, 1) else if (volOf (volL N l) t).isSome then (l, 8) else match roomL N (volL N l) x.n.toNat with
    | none => (l, 5)
    | some (a, j) => (wrL (wrL l a x.n.toNat (rdL l x.f.toNat x.n.toNat)) j.toNat 1 (bytesE (nums t) a x.n), 0)
set_option maxRecDepth 100000 in
set_option maxHeartbeats 4000000 in
theorem clone25 {l : List Int} (hl8 : B8 l) {N : Nat} (hl : l.length = N * 32) (hN : 9 ≤ N ∧ N ≤ 512) (s t : ByteArray) (ht : t.size ≤ 9223372036854775807) (w : World) :
    Calls Tryz.prog 51 #[.string (strOfNums l), .string s, .string t] w fun e w' => e = .returned (.tuple #[.string (strOfNums (cloneL N l s t).1), .int .i64 (cloneL N l s t).2]) ∧ Keep (fun _ => False) w w' := by
  have hroom : RowKit.Hid (∀ k : Nat, 1 ≤ k ∧ k ≤ 512 → ∀ wx, Calls Tryz.prog 67 #[.string (strOfNums l), .int .i64 (k : Int)] wx fun e w' => (∃ v, e = .returned v ∧ roomQ N (volL N l) k v) ∧ Keep (fun _ => False) wx w') := fun k hk wx => room25 hl8 hl hN hk wx
  have hD : RowKit.Hid (Dk l N (volL N l)) := dk_of hl8 hl hN
  clear hl8 hl hN
  have hGood := rgood25 t ht
  have hgl := good_len (t := t)
  obtain ⟨G, hG⟩ : ∃ G, G = goodS (bs t) := ⟨_, rfl⟩
  obtain ⟨R, hR⟩ : ∃ R, RowKit.Hid (R = cloneL N l s t) := ⟨_, rfl⟩
  have hR2 : RowKit.Hid (R = match volOf (volL N l) s with | none => (l, (4 : Int)) | some x => if goodS (bs t) = false then (l, (1 : Int)) else if (volOf (volL N l) t).isSome then (l, (8 : Int)) else match roomL N (volL N l) x.n.toNat with | none => (l, (5 : Int)) | some (a, j) => (wrL (wrL l a x.n.toNat (rdL l x.f.toNat x.n.toNat)) j.toNat 1 (bytesE (nums t) a x.n), 0)) := hR
  rw [← hR.out]
  rw [← hG] at hR2 hGood hgl
  clear hR hG ht
  obtain ⟨T, hT⟩ : ∃ T, RowKit.Hid (T = strOfNums l) := ⟨_, rfl⟩
  rw [← hT.out] at hroom ⊢
  obtain ⟨V, hV⟩ : ∃ V, V = volL N l := ⟨_, rfl⟩
  rw [← hV] at hD hR2 hroom
  clear hV
  have hv := hD.out.vol w
  rw [← hT.out] at hv
  go_enter Tryz.func51, Tryz.ntmps51
  go_wp2_with fail
  refine hv.mono ?_
  rintro e w2 ⟨a, cap, rfl, E2⟩
  have E2' : RowKit.Hid (Ev w w2 a cap V) := E2
  have hf := find25 E2.er (by have := hD.out.v8; omega) cap s
  clear hv E2
  obtain ⟨F, hF⟩ : ∃ F, F = findF s V 0 := ⟨_, rfl⟩
  rw [← hF] at hf
  obtain ⟨m, hm⟩ : ∃ m, RowKit.Hid (m = V.length) := ⟨_, rfl⟩
  rw [← hm.out] at hf ⊢
  go_wp2_with fail
  refine hf.mono ?_
  rintro e w3 ⟨rfl, e3⟩
  subst e3
  clear hf
  rcases find_or s V with ⟨h1, h2⟩ | ⟨i, x, h1, h2, h3, h4⟩
  · rw [h1] at hF
    subst hF
    have hRR : RowKit.Hid (R = (l, 4)) := by show R = _; rw [hR2.out, h2]
    have hK : RowKit.Hid (Keep (fun _ => False) w w3) := E2'.out.keep
    clear h1 h2 hR2 hD E2' hGood hgl hroom
    go_wp2_with fail
    go_ret2
    exact ⟨by rw [hRR.out, hT.out]; rfl, hK⟩
  · rw [h1] at hF
    subst hF
    have hR3 : RowKit.Hid (R = if G = false then (l, (1 : Int)) else if (volOf V t).isSome then (l, (8 : Int)) else match roomL N V x.n.toNat with | none => (l, (5 : Int)) | some (a, j) => (wrL (wrL l a x.n.toNat (rdL l x.f.toNat x.n.toNat)) j.toNat 1 (bytesE (nums t) a x.n), 0)) := by show R = _; rw [hR2.out, h3]
    have hge : ¬ (i : Int) < 0 := by omega
    have hil : (i : Int) < m := by have := (List.getElem?_eq_some_iff.1 h2).1; rw [hm.out]; omega
    have hK : RowKit.Hid (Keep (fun _ => False) w w3) := E2'.out.keep
    have hgg := hGood w3
    have hx2 : RowKit.Hid (V[i]? = some x) := h2
    have hil' : RowKit.Hid ((i : Int) < m) := hil
    clear h1 h2 h3 h4 hR2 hGood hil
    cases G with
    | false =>
      have hRR : RowKit.Hid (R = (l, 1)) := hR3
      clear hD E2' hm hgl hx2 hil' hR3 hroom
      go_wp2_with fail
      refine hgg.mono ?_
      rintro e w4 ⟨rfl, e4⟩
      subst e4
      clear hgg
      go_wp2_with fail
      go_ret2
      exact ⟨by rw [hRR.out, hT.out]; rfl, hK⟩
    | true =>
      have hR4 : RowKit.Hid (R = if (volOf V t).isSome then (l, (8 : Int)) else match roomL N V x.n.toNat with | none => (l, (5 : Int)) | some (a, j) => (wrL (wrL l a x.n.toNat (rdL l x.f.toNat x.n.toNat)) j.toNat 1 (bytesE (nums t) a x.n), 0)) := hR3
      have hf2 := find25 E2'.out.er (by have := hD.out.v8; omega) cap t
      obtain ⟨F2, hF2⟩ : ∃ F, F = findF t V 0 := ⟨_, rfl⟩
      rw [← hF2, ← hm.out] at hf2
      have hsl := hgl rfl
      go_wp2_with fail
      refine hgg.mono ?_
      rintro e w4 ⟨rfl, e4⟩
      subst e4
      clear hgg hR3 hgl
      go_wp2_with fail
      refine hf2.mono ?_
      rintro e w4 ⟨rfl, e4⟩
      subst e4
      clear hf2
      rcases find_or t V with ⟨h1, h2⟩ | ⟨i2, x2, h1, h2, h3, h4⟩
      case inr =>
        rw [h1] at hF2
        subst hF2
        have hRR : RowKit.Hid (R = (l, 8)) := by show R = _; rw [hR4.out, h3]; rfl
        clear h1 h2 h3 h4 hR4 hD E2' hm hx2 hil' hroom
        have hge2 : (0 : Int) ≤ (i2 : Int) := by omega
        go_wp2_with fail
        go_ret2
        exact ⟨by rw [hRR.out, hT.out]; rfl, hK⟩
      case inl =>
        rw [h1] at hF2
        subst hF2
        have hxo := hD.out.ok x (List.mem_of_getElem? hx2.out)
        have hxf := hxo.f; have hxn := hxo.n; have hxfn := hxo.fn; have hN5 := hD.out.N9
        obtain ⟨k, hkn⟩ : ∃ c : Nat, x.n = (c : Int) := ⟨x.n.toNat, by omega⟩
        obtain ⟨xf, hfn⟩ : ∃ c : Nat, x.f = (c : Int) := ⟨x.f.toNat, by omega⟩
        have hk : RowKit.Hid (1 ≤ k ∧ k ≤ 512) := by show _ ∧ _; omega
        have hkf : RowKit.Hid (xf + k ≤ N) := by show _ ≤ _; omega
        have hR5 : RowKit.Hid (R = match roomL N V k with | none => (l, (5 : Int)) | some (a, j) => (wrL (wrL l a k (rdL l xf k)) j.toNat 1 (bytesE (nums t) a k), 0)) := by show R = _; rw [hR4.out, h2, hkn, hfn]; rfl
        have hcl0 : RowKit.Hid (∃ g o, a = some ⟨g, o, none⟩ ∧ (∀ w', Keep (fun _ => False) w4 w' → w'.cell? ⟨g, o + i * 4 + 1, none⟩ = some (.int .i64 (xf : Int))) ∧ (∀ w', Keep (fun _ => False) w4 w' → w'.cell? ⟨g, o + i * 4 + 2, none⟩ = some (.int .i64 (k : Int)))) := by
          obtain ⟨g, o, e, -⟩ := E2'.out.er i x hx2.out
          refine ⟨g, o, e, fun w' kk => ?_, fun w' kk => ?_⟩
          · obtain ⟨g', o', e', -, z1, -⟩ := (E2'.out.er.keep kk) i x hx2.out
            rw [e] at e'; injection e' with e'; injection e' with e1 e2; subst e1; subst e2
            rw [hfn] at z1; exact z1
          · obtain ⟨g', o', e', -, -, z2, -⟩ := (E2'.out.er.keep kk) i x hx2.out
            rw [e] at e'; injection e' with e'; injection e' with e1 e2; subst e1; subst e2
            rw [hkn] at z2; exact z2
        have hr3 := hroom.out k hk.out w4
        have hil : (i : Int) < m := hil'
        clear h1 h2 hR4 hm hroom hxo hxf hxn hxfn hN5 hkn hfn hx2 hil' E2'
        obtain ⟨ga, oa, eg, hc1, hc2⟩ := hcl0.out
        clear hcl0
        have hcl : RowKit.Hid ((∀ w', Keep (fun _ => False) w4 w' → w'.cell? ⟨ga, oa + i * 4 + 1, none⟩ = some (.int .i64 (xf : Int))) ∧ (∀ w', Keep (fun _ => False) w4 w' → w'.cell? ⟨ga, oa + i * 4 + 2, none⟩ = some (.int .i64 (k : Int)))) := ⟨hc1, hc2⟩
        have z2 := hc2 w4 (Keep.refl _ _)
        clear hc1 hc2
        subst eg
        go_upto_region 9 with fail
        go_wp2_with fail
        refine hr3.mono ?_
        rintro e w5 ⟨⟨v, rfl, hq⟩, k5⟩
        have hK4 : RowKit.Hid (Keep (fun _ => False) w w5) := hK.out.trans k5
        have hK45 : RowKit.Hid (Keep (fun _ => False) w4 w5) := k5
        clear hr3 k5 hK z2
        cases hrl : roomL N V k with
        | none =>
          unfold roomQ at hq
          rw [hrl] at hq hR5
          obtain ⟨f, j, rfl⟩ := hq
          have hRR : RowKit.Hid (R = (l, 5)) := hR5
          have hK5 : RowKit.Hid (Keep (fun _ => False) w (w5.alloc (.cells #[.string ⟨#[]⟩, .int .i64 f, .int .i64 (k : Int), .int .i64 j] 91))) := hK4.out.alloc _
          clear hR5 hD hrl hK4 hcl hK45
          go_wp2_with fail
          go_ret2
          exact ⟨by rw [hRR.out, hT.out]; rfl, hK5⟩
        | some aj =>
          obtain ⟨p, j⟩ := aj
          unfold roomQ at hq
          rw [hrl] at hq hR5
          have hq : v = .tuple #[.agg #[.string ⟨#[]⟩, .int .i64 (p : Int), .int .i64 (k : Int), .int .i64 j], .bool true] := hq
          subst hq
          obtain ⟨b1, b2, b3, b4, -⟩ := roomL_bd hrl
          obtain ⟨c, rfl⟩ : ∃ c : Nat, j = (c : Int) := ⟨j.toNat, by omega⟩
          have hRR : RowKit.Hid (R = (wrL (wrL l p k (rdL l xf k)) c 1 (bytesE (nums t) p k), 0)) := hR5
          have hK5 : RowKit.Hid (Keep (fun _ => False) w (w5.alloc (.cells #[.string ⟨#[]⟩, .int .i64 (p : Int), .int .i64 (k : Int), .int .i64 (c : Int)] 91))) := hK4.out.alloc _
          have hK46 : RowKit.Hid (Keep (fun _ => False) w4 (w5.alloc (.cells #[.string ⟨#[]⟩, .int .i64 (p : Int), .int .i64 (k : Int), .int .i64 (c : Int)] 91))) := hK45.out.alloc _
          have L5 : Blk (w5.alloc (.cells #[.string ⟨#[]⟩, .int .i64 (p : Int), .int .i64 (k : Int), .int .i64 (c : Int)] 91)) w5.heap.size 4 (enC ⟨[], p, k, c⟩) :=
            blk_alloc w5 _ 91 4 _ (by intro k hk; rcases (by omega : k = 0 ∨ k = 1 ∨ k = 2 ∨ k = 3) with rfl | rfl | rfl | rfl <;> rfl)
          have hRd := fun w => rread17_yes hD.out.len hD.out.N9.2 (lba := xf) (n := k) (okR_iff.2 ⟨by have := hk.out; omega, by omega, by have := hkf.out; omega⟩) w
          have hWr := fun w => rwrite17_yes (d := strOfNums (rdL l xf k)) hD.out.len hD.out.N9.2 (lba := p) (n := k) (okR_iff.2 ⟨by have := hk.out; omega, by omega, by omega⟩) w
          rw [nums_str (rdL_b8 hD.out.b8)] at hWr
          rw [← hT.out] at hWr hRd
          have hlen2 : (wrL l p k (rdL l xf k)).length = N * 32 := by rw [wrL_len (by rw [hD.out.len]; omega)]; exact hD.out.len
          have hput := fun w => put25 (nm := nums t) hlen2 hD.out.N9.2 (nums_b8 t) (by rw [nums_len]; exact hsl.2) p k (j := c) (by have := hD.out.N9; omega) w
          rw [str_nums] at hput
          obtain ⟨D, hDD⟩ : ∃ D, RowKit.Hid (D = strOfNums (rdL l xf k)) := ⟨_, rfl⟩
          obtain ⟨T2, hT2⟩ : ∃ T2, RowKit.Hid (T2 = strOfNums (wrL l p k (rdL l xf k))) := ⟨_, rfl⟩
          obtain ⟨U, hU⟩ : ∃ U, RowKit.Hid (U = strOfNums (wrL (wrL l p k (rdL l xf k)) c 1 (bytesE (nums t) p k))) := ⟨_, rfl⟩
          rw [← hT2.out] at hWr hput
          rw [← hDD.out] at hWr hRd
          rw [← hU.out] at hput
          have hgb : RowKit.Hid (w.heap.size ≤ w5.heap.size) := hK4.out.size
          have hgb4 : RowKit.Hid (w4.heap.size ≤ w5.heap.size) := hK45.out.size
          clear hR5 hD hrl hK4 hK45 b1 b2 b3 b4 hlen2 hsl
          go_upto_region 12 with fail
          generalize w5.alloc (.cells #[.string ⟨#[]⟩, .int .i64 (p : Int), .int .i64 (k : Int), .int .i64 (c : Int)] 91) = wb at *
          generalize w5.heap.size = g at *
          obtain ⟨y0, f0⟩ := L5 0 (by omega)
          have L6 : Blk (wb.setCell ⟨g, 0, none⟩ (.string t)) g 4 (enC ⟨nums t, p, k, c⟩) := (L5.set 0 _).congr (fun j hj => by rcases (by omega : j = 0 ∨ j = 1 ∨ j = 2 ∨ j = 3) with rfl | rfl | rfl | rfl <;> first | rfl | (show Value.string t = .string (strOfNums (nums t)); rw [str_nums]))
          have hK6 : RowKit.Hid (Keep (fun _ => False) w (wb.setCell ⟨g, 0, none⟩ (.string t))) := hK5.out.setCell (Or.inr hgb.out) _
          have hK47 : RowKit.Hid (Keep (fun _ => False) w4 (wb.setCell ⟨g, 0, none⟩ (.string t))) := hK46.out.setCell (Or.inr hgb4.out) _
          have y0 : wb.cell? ⟨g, 0, none⟩ = some (.string ⟨#[]⟩) := y0
          clear L5 hK5 hK46
          go_upto_region 13 with fail
          generalize wb.setCell ⟨g, 0, none⟩ (.string t) = w6 at *
          clear y0 f0
          have L6' : RowKit.Hid (Blk w6 g 4 (enC ⟨nums t, p, k, c⟩)) := L6
          have hcl : RowKit.Hid ((∀ w', Keep (fun _ => False) w6 w' → w'.cell? ⟨ga, oa + i * 4 + 1, none⟩ = some (.int .i64 (xf : Int))) ∧ (∀ w', Keep (fun _ => False) w6 w' → w'.cell? ⟨ga, oa + i * 4 + 2, none⟩ = some (.int .i64 (k : Int)))) := ⟨fun w' k => hcl.out.1 w' (hK47.out.trans k), fun w' k => hcl.out.2 w' (hK47.out.trans k)⟩
          clear L6 hK47
          go_cut [12, 13] from 48 to 63 (fun v u wx => v = .string D ∧ Keep (fun _ => False) w6 wx)
          case first =>
            clear hRR hWr hput hK6 L6' hgb hgb4
            refine wp_region_noPanic ?_
            refine wp_region_held_drew (S := fun w' => Keep (fun _ => False) w6 w') (by kernel_rfl) ((Keep.refl _ _).drew) (fun hH0 => ?_)
            refine tk 0 hH0 ?_
            refine tk 1 hH0 ?_
            refine tk 2 hH0 ?_
            refine tk 3 hH0 ?_
            refine tk 4 hH0 ?_
            refine tk 5 hH0 ?_ (hy := Or.inl ⟨by rfl, by intro w' hSw; have z1 := hcl.out.1 w' hSw; have z2 := hcl.out.2 w' hSw; clear hSw; go_simp; try with_reducible rfl⟩)
            refine tk 6 hH0 ?_
            refine tk 7 hH0 ?_
            refine tk 8 hH0 ?_
            refine tk 9 hH0 ?_
            refine tk 10 hH0 ?_ (hy := Or.inl ⟨by rfl, by intro w' hSw; have z1 := hcl.out.1 w' hSw; have z2 := hcl.out.2 w' hSw; clear hSw; go_simp; try with_reducible rfl⟩)
            refine rd 11 (fun K hK => ?_)
            refine step_call_want (vs := #[.string T, .int .i64 (xf : Int), .int .i64 (k : Int)]) (R := fun v wz => v = .tuple #[.string D, .bool true] ∧ wz = w6.drew) (by rfl) 53 _ _ rfl (by simp [Act.eval]) gcall12 ((hRd w6.drew).mono (by rintro e wz ⟨rfl, rfl⟩; exact ⟨_, rfl, rfl, rfl⟩)) ?_
            rintro v wA ⟨rfl, eA⟩; subst eA
            refine hK.out _ _ (((Keep.refl _ _).drew)) (fun hH1 => ?_)
            clear hK K
            simp only [Act.put, List.setIfInBounds_toArray, List.set_cons_zero, List.set_cons_succ]
            refine tk 12 hH1 ?_
            refine tk 13 hH1 ?_
            refine tk 14 hH1 ?_
            refine tk 15 hH1 ?_
            refine tk 16 hH1 ?_
            refine wpAnyH_done (by kernel_rfl) ?_ _
            refine NoPanic.normal ?_
            go_wp2_with fail
            go_meet
            exact ⟨rfl, ((Keep.refl _ _).drew)⟩
          case rest =>
            obtain ⟨rfl, k7⟩ := hcut
            generalize wc = w7 at *
            have L7 : Blk w7 g 4 (enC ⟨nums t, p, k, c⟩) := L6'.out.keep k7 (fun e => e)
            have y1 : w7.cell? ⟨g, 1, none⟩ = some (.int .i64 (p : Int)) := (L7 1 (by omega)).1
            have y2 : w7.cell? ⟨g, 2, none⟩ = some (.int .i64 (k : Int)) := (L7 2 (by omega)).1
            have L7' : RowKit.Hid (Blk w7 g 4 (enC ⟨nums t, p, k, c⟩)) := L7
            have hK7 : RowKit.Hid (Keep (fun _ => False) w w7) := hK6.out.trans k7
            have hW7 := hWr w7
            clear hWr L6' L7 k7 hK6 hcl hRd
            go_wp2_with fail
            refine hW7.mono ?_
            rintro e w8 ⟨rfl, k8⟩
            have L8 := load50 (L7'.out.keep k8 (fun e => e))
            have hA : enA ⟨nums t, p, k, c⟩ = #[.string t, .int .i64 (p : Int), .int .i64 (k : Int), .int .i64 (c : Int)] := by show #[Value.string (strOfNums (nums t)), _, _, _] = _; rw [str_nums]
            rw [hA] at L8
            have hK8 : RowKit.Hid (Keep (fun _ => False) w w8) := hK7.out.trans k8
            have hp8 := hput w8
            clear hW7 k8 hK7 L7' y1 y2 hA hput
            go_wp2_with (guard_target =~ wpList _ _ _ (Oper.mk _ (Op.load 91 _) _ _ _ _ :: _) _ _; refine wpList_load_run (by rfl) 91 (.tmp 10) (by rfl) (by rfl) L8 ?_)
            refine hp8.mono ?_
            rintro e w9 ⟨rfl, k9⟩
            have hK9 : RowKit.Hid (Keep (fun _ => False) w w9) := hK8.out.trans k9
            clear hp8 k9 hK8 L8
            go_wp2_with fail
            go_ret2
            exact ⟨by rw [hRR.out]; show Ending.returned (.tuple #[.string U, _]) = _; rw [hU.out]; rfl, hK9⟩
end Tg
end Go.Proofs.YtjgnajopomadpaaGreat
