/-
  The law's own answer to a call, of the sectors.
-/
import Derived.Test.YtjgnajopomadpaaGreatRd
import Derived.OwnWalk
namespace Go.Proofs.YtjgnajopomadpaaGreat
open Go.ChangeShapes Go.WideShapes Go.ChangeAt Go.RowKit
namespace Tg
open Qm Crc
theorem place_bd {l : List Int} (hl8 : B8 l) {N : Nat} (hl : l.length = N * 32) (hN : 9 ≤ N ∧ N ≤ 512) (s : ByteArray) (p n : Int) : ((placeL N l s p n).2 = 1 ∨ (placeL N l s p n).2 = 4) ∨ ((placeL N l s p n).2 = 0 ∧ ∃ a k : Nat, (placeL N l s p n).1 = a ∧ n = k ∧ 1 ≤ k ∧ 8 ≤ a ∧ a + k ≤ N) := by
  cases hv : volOf (volL N l) s with
  | none =>
    have e : placeL N l s p n = (0, 4) := by unfold placeL; rw [hv]
    rw [e]; exact Or.inl (Or.inr rfl)
  | some x =>
    have e : placeL N l s p n = if okR x.n p n then (x.f + p, 0) else (0, 1) := by unfold placeL; rw [hv]
    rw [e]
    cases hk : okR x.n p n with
    | false => exact Or.inl (Or.inl (by simp))
    | true =>
      right
      have hm : x ∈ volL N l := List.mem_of_find?_eq_some hv
      have hok := (volK_ok hl8 hl (by omega : 8 ≤ N) 8 (Nat.le_refl _)).2 x hm
      have h1 := hok.f; have h2 := hok.fn
      have h3 := okR_iff.1 hk
      exact ⟨by simp, (x.f + p).toNat, n.toNat, by show x.f + p = ((x.f + p).toNat : Int); omega, by omega, by omega, by omega, by omega⟩
set_option maxRecDepth 100000 in
set_option maxHeartbeats 8000000 in
theorem own25 {l : List Int} (hl8 : B8 l) {N : Nat} (hl : l.length = N * 32) (hN : 9 ≤ N ∧ N ≤ 512) (x : Ac) (hx : x.Ok) (w : World) :
    Calls Tryz.prog 23 #[.string (strOfNums l), .agg (acA x)] w fun e w' => e = .returned (.tuple #[.string (strOfNums (ownL N l x).1), .string (strOfNums (ownL N l x).2.1), .int .i64 (ownL N l x).2.2]) ∧ Keep (fun _ => False) w w' := by
  have hA : acA x = #[.int .i64 x.op, .int .i64 x.a, .int .i64 x.b, .int .i64 x.p, .int .i64 x.n, .string x.d] := rfl
  rw [hA]
  clear hA
  have hx : RowKit.Hid (x.Ok) := hx
  have K0 : Keep (fun _ => False) w (w.alloc (.cells #[.int .i64 x.op, .int .i64 x.a, .int .i64 x.b, .int .i64 x.p, .int .i64 x.n, .string x.d] 43)) := (Keep.refl _ _).alloc _
  have L1 : Blk (w.alloc (.cells #[.int .i64 x.op, .int .i64 x.a, .int .i64 x.b, .int .i64 x.p, .int .i64 x.n, .string x.d] 43)) w.heap.size 6 (acC x) := blk_alloc w _ 43 6 _ (by intro k hk; rcases (by omega : k = 0 ∨ k = 1 ∨ k = 2 ∨ k = 3 ∨ k = 4 ∨ k = 5) with rfl | rfl | rfl | rfl | rfl | rfl <;> rfl)
  obtain ⟨w1, hw1⟩ : ∃ z, z = w.alloc (.cells #[.int .i64 x.op, .int .i64 x.a, .int .i64 x.b, .int .i64 x.p, .int .i64 x.n, .string x.d] 43) := ⟨_, rfl⟩
  rw [← hw1] at K0 L1
  obtain ⟨gb, hgb⟩ : ∃ z, z = w.heap.size := ⟨_, rfl⟩
  rw [← hgb] at L1
  have hback : RowKit.Hid (∀ {wa : World}, Keep (fun _ => False) w1 wa → Keep (fun _ => False) w wa) := fun k => K0.trans k
  have hBk : RowKit.Hid (∀ w', Keep (fun _ => False) w1 w' → Blk w' gb 6 (acC x)) := fun w' k => L1.keep k (fun e => e)
  have y0 : w1.cell? ⟨gb, 0, none⟩ = some (.int .i64 x.op) := (L1 0 (by omega)).1
  have hw1' : RowKit.Hid (w1 = w.alloc (.cells #[.int .i64 x.op, .int .i64 x.a, .int .i64 x.b, .int .i64 x.p, .int .i64 x.n, .string x.d] 43)) := hw1
  have hcr := fun w => create25 hl8 hl hN (nameS x.a) (nameS_size _) x.n w
  have hde := fun w => delete25 hl8 hl hN (nameS x.a) w
  have hre := fun w => rename25 hl8 hl hN (nameS x.a) (nameS x.b) (nameS_size _) w
  have hcl := fun w => clone25 hl8 hl hN (nameS x.a) (nameS x.b) (nameS_size _) w
  have hpl := fun w => place25 hl8 hl hN (nameS x.a) x.p x.n hx.out.p.2 w
  have hbd := place_bd hl8 hl hN (nameS x.a) x.p x.n
  have hrd := fun (a k : Nat) (h : okR N a k = true) w => rread17_yes (l := l) hl hN.2 h w
  have hwr := fun (a k : Nat) (h : okR N a k = true) w => rwrite17_yes (l := l) (d := x.d) hl hN.2 h w
  obtain ⟨T, hT⟩ : ∃ T, T = strOfNums l := ⟨_, rfl⟩
  rw [← hT] at hcr hde hre hcl hpl hrd hwr ⊢
  have hT' : RowKit.Hid (T = strOfNums l) := hT
  have hcr : RowKit.Hid _ := hcr
  have hde : RowKit.Hid _ := hde
  have hre : RowKit.Hid _ := hre
  have hcl : RowKit.Hid _ := hcl
  have hpl : RowKit.Hid _ := hpl
  have hbd : RowKit.Hid _ := hbd
  have hrd : RowKit.Hid _ := hrd
  have hwr : RowKit.Hid _ := hwr
  clear L1 K0 hT hl8 hl hN
  by_cases c0 : x.op = 0
  · have d0 : (x.op == 0) = true := by simp [c0]
    have hend : RowKit.Hid (∀ wz, Keep (fun _ => False) w1 wz → (Ending.returned (.tuple #[.string (strOfNums (createL N l (nameS x.a) x.n).1), .string ⟨#[]⟩, .int .i64 (createL N l (nameS x.a) x.n).2]) = .returned (.tuple #[.string (strOfNums (ownL N l x).1), .string (strOfNums (ownL N l x).2.1), .int .i64 (ownL N l x).2.2]) ∧ Keep (fun _ => False) w wz)) := fun wz hz => by
      have e : ownL N l x = ((createL N l (nameS x.a) x.n).1, [], (createL N l (nameS x.a) x.n).2) := by unfold ownL; rw [if_pos c0]
      rw [e]
      exact ⟨rfl, hback.out hz⟩
    clear c0
    go_enter Tryz.func23, Tryz.ntmps23
    go_upto_region 4 with fail
    rw [← hw1'.out, ← hgb]
    clear hgb hw1 hw1'
    go_upto_region 6 with fail
    clear d0 y0
    refine wp_region_noPanic ?_
    refine wp_region_held_drew (S := fun w' => Keep (fun _ => False) w1 w') (by kernel_rfl) ((Keep.refl _ _).drew) (fun hH0 => ?_)
    refine tk 0 hH0 ?_
    refine tk 1 hH0 ?_
    refine tk 2 hH0 ?_ (hy := Or.inl ⟨by rfl, by intro w' hSw; have hz := hBk.out w' hSw; clear hSw; have z : w'.cell? ⟨gb, 1, none⟩ = some (.int .i64 x.a) := (hz 1 (by omega)).1; clear hz; go_simp; try with_reducible rfl⟩)
    refine tk 4 hH0 ?_
    refine tk 5 hH0 ?_ (hy := Or.inl ⟨by rfl, by intro w' hSw; have hz := hBk.out w' hSw; clear hSw; have z : w'.cell? ⟨gb, 4, none⟩ = some (.int .i64 x.n) := (hz 4 (by omega)).1; clear hz; go_simp; try with_reducible rfl⟩)
    refine rd 3 (fun K hK => ?_)
    refine step_call_want (vs := #[.int .i64 x.a]) (R := fun v wz => v = .string (nameS x.a) ∧ Keep (fun _ => False) (w1.drew) wz) (by rfl) 47 _ _ rfl (by simp [Act.eval]) gcName ((name25 x.a (w1.drew)).mono (by rintro e wz ⟨rfl, k⟩; exact ⟨_, rfl, rfl, k⟩)) ?_
    rintro v wn1 ⟨rfl, kn1⟩
    refine hK.out _ _ ((((Keep.refl _ _).drew).trans kn1)) (fun hH1 => ?_)
    clear hK K
    simp only [Act.put, List.setIfInBounds_toArray, List.set_cons_zero, List.set_cons_succ]
    refine rd 6 (fun K hK => ?_)
    refine step_call_want (vs := #[.string T, .string (nameS x.a), .int .i64 x.n]) (R := fun v wz => v = .tuple #[.string (strOfNums (createL N l (nameS x.a) x.n).1), .int .i64 (createL N l (nameS x.a) x.n).2] ∧ Keep (fun _ => False) (wn1) wz) (by rfl) 48 _ _ rfl (by simp [Act.eval]) gcoCreate ((hcr.out (wn1)).mono (by rintro e wz ⟨rfl, k⟩; exact ⟨_, rfl, rfl, k⟩)) ?_
    rintro v wc ⟨rfl, kc⟩
    refine hK.out _ _ (((((Keep.refl _ _).drew).trans kn1).trans kc)) (fun hH2 => ?_)
    clear hK K
    simp only [Act.put, List.setIfInBounds_toArray, List.set_cons_zero, List.set_cons_succ]
    refine tk 7 hH2 ?_
    refine tk 8 hH2 ?_
    refine tk 9 hH2 ?_
    refine tk 10 hH2 ?_
    refine tk 11 hH2 ?_
    refine wpAnyH_done (by kernel_rfl) ?_ _
    refine NoPanic.normal ?_
    have hres := hend.out wc ((((Keep.refl _ _).drew).trans kn1).trans kc)
    go_wp2_with fail
    go_ret3
    exact hres
  have d0 : (x.op == 0) = false := by simp [c0]
  by_cases c1 : x.op = 1
  · have d1 : (x.op == 1) = true := by simp [c1]
    have hend : RowKit.Hid (∀ wz, Keep (fun _ => False) w1 wz → (Ending.returned (.tuple #[.string (strOfNums (deleteL N l (nameS x.a)).1), .string ⟨#[]⟩, .int .i64 (deleteL N l (nameS x.a)).2]) = .returned (.tuple #[.string (strOfNums (ownL N l x).1), .string (strOfNums (ownL N l x).2.1), .int .i64 (ownL N l x).2.2]) ∧ Keep (fun _ => False) w wz)) := fun wz hz => by
      have e : ownL N l x = ((deleteL N l (nameS x.a)).1, [], (deleteL N l (nameS x.a)).2) := by unfold ownL; rw [if_neg c0]; rw [if_pos c1]
      rw [e]
      exact ⟨rfl, hback.out hz⟩
    clear c1
    go_enter Tryz.func23, Tryz.ntmps23
    go_upto_region 4 with fail
    rw [← hw1'.out, ← hgb]
    clear hgb hw1 hw1'
    have hN := name25 x.a w1
    have z : w1.cell? ⟨gb, 1, none⟩ = some (.int .i64 x.a) := ((hBk.out w1 (Keep.refl _ _)) 1 (by omega)).1
    go_wp2_with fail
    refine hN.mono ?_
    rintro e w2 ⟨rfl, k2⟩
    have hD := hde.out w2
    clear hN z
    go_wp2_with fail
    refine hD.mono ?_
    rintro e w3 ⟨rfl, k3⟩
    have hres := hend.out w3 (k2.trans k3)
    clear hD
    go_wp2_with fail
    go_ret3
    exact hres
  have d1 : (x.op == 1) = false := by simp [c1]
  by_cases c2 : x.op = 2
  · have d2 : (x.op == 2) = true := by simp [c2]
    have hend : RowKit.Hid (∀ wz, Keep (fun _ => False) w1 wz → (Ending.returned (.tuple #[.string (strOfNums (renameL N l (nameS x.a) (nameS x.b)).1), .string ⟨#[]⟩, .int .i64 (renameL N l (nameS x.a) (nameS x.b)).2]) = .returned (.tuple #[.string (strOfNums (ownL N l x).1), .string (strOfNums (ownL N l x).2.1), .int .i64 (ownL N l x).2.2]) ∧ Keep (fun _ => False) w wz)) := fun wz hz => by
      have e : ownL N l x = ((renameL N l (nameS x.a) (nameS x.b)).1, [], (renameL N l (nameS x.a) (nameS x.b)).2) := by unfold ownL; rw [if_neg c0]; rw [if_neg c1]; rw [if_pos c2]
      rw [e]
      exact ⟨rfl, hback.out hz⟩
    clear c2
    go_enter Tryz.func23, Tryz.ntmps23
    go_upto_region 4 with fail
    rw [← hw1'.out, ← hgb]
    clear hgb hw1 hw1'
    go_upto_region 10 with fail
    clear c0 d0 c1 d1 d2 y0
    refine wp_region_noPanic ?_
    refine wp_region_held_drew (S := fun w' => Keep (fun _ => False) w1 w') (by kernel_rfl) ((Keep.refl _ _).drew) (fun hH0 => ?_)
    refine tk 0 hH0 ?_
    refine tk 1 hH0 ?_
    refine tk 2 hH0 ?_ (hy := Or.inl ⟨by rfl, by intro w' hSw; have hz := hBk.out w' hSw; clear hSw; have z : w'.cell? ⟨gb, 1, none⟩ = some (.int .i64 x.a) := (hz 1 (by omega)).1; clear hz; go_simp; try with_reducible rfl⟩)
    refine tk 4 hH0 ?_
    refine tk 5 hH0 ?_ (hy := Or.inl ⟨by rfl, by intro w' hSw; have hz := hBk.out w' hSw; clear hSw; have z : w'.cell? ⟨gb, 2, none⟩ = some (.int .i64 x.b) := (hz 2 (by omega)).1; clear hz; go_simp; try with_reducible rfl⟩)
    refine rd 3 (fun K hK => ?_)
    refine step_call_want (vs := #[.int .i64 x.a]) (R := fun v wz => v = .string (nameS x.a) ∧ Keep (fun _ => False) (w1.drew) wz) (by rfl) 47 _ _ rfl (by simp [Act.eval]) gcName ((name25 x.a (w1.drew)).mono (by rintro e wz ⟨rfl, k⟩; exact ⟨_, rfl, rfl, k⟩)) ?_
    rintro v wn1 ⟨rfl, kn1⟩
    refine hK.out _ _ ((((Keep.refl _ _).drew).trans kn1)) (fun hH1 => ?_)
    clear hK K
    simp only [Act.put, List.setIfInBounds_toArray, List.set_cons_zero, List.set_cons_succ]
    refine rd 6 (fun K hK => ?_)
    refine step_call_want (vs := #[.int .i64 x.b]) (R := fun v wz => v = .string (nameS x.b) ∧ Keep (fun _ => False) (wn1) wz) (by rfl) 47 _ _ rfl (by simp [Act.eval]) gcName ((name25 x.b (wn1)).mono (by rintro e wz ⟨rfl, k⟩; exact ⟨_, rfl, rfl, k⟩)) ?_
    rintro v wn2 ⟨rfl, kn2⟩
    refine hK.out _ _ (((((Keep.refl _ _).drew).trans kn1).trans kn2)) (fun hH2 => ?_)
    clear hK K
    simp only [Act.put, List.setIfInBounds_toArray, List.set_cons_zero, List.set_cons_succ]
    refine rd 7 (fun K hK => ?_)
    refine step_call_want (vs := #[.string T, .string (nameS x.a), .string (nameS x.b)]) (R := fun v wz => v = .tuple #[.string (strOfNums (renameL N l (nameS x.a) (nameS x.b)).1), .int .i64 (renameL N l (nameS x.a) (nameS x.b)).2] ∧ Keep (fun _ => False) (wn2) wz) (by rfl) 50 _ _ rfl (by simp [Act.eval]) gcoRename ((hre.out (wn2)).mono (by rintro e wz ⟨rfl, k⟩; exact ⟨_, rfl, rfl, k⟩)) ?_
    rintro v wc ⟨rfl, kc⟩
    refine hK.out _ _ ((((((Keep.refl _ _).drew).trans kn1).trans kn2).trans kc)) (fun hH3 => ?_)
    clear hK K
    simp only [Act.put, List.setIfInBounds_toArray, List.set_cons_zero, List.set_cons_succ]
    refine tk 8 hH3 ?_
    refine tk 9 hH3 ?_
    refine tk 10 hH3 ?_
    refine tk 11 hH3 ?_
    refine tk 12 hH3 ?_
    refine wpAnyH_done (by kernel_rfl) ?_ _
    refine NoPanic.normal ?_
    have hres := hend.out wc (((((Keep.refl _ _).drew).trans kn1).trans kn2).trans kc)
    go_wp2_with fail
    go_ret3
    exact hres
  have d2 : (x.op == 2) = false := by simp [c2]
  by_cases c3 : x.op = 3
  · have d3 : (x.op == 3) = true := by simp [c3]
    have hend : RowKit.Hid (∀ wz, Keep (fun _ => False) w1 wz → (Ending.returned (.tuple #[.string (strOfNums (cloneL N l (nameS x.a) (nameS x.b)).1), .string ⟨#[]⟩, .int .i64 (cloneL N l (nameS x.a) (nameS x.b)).2]) = .returned (.tuple #[.string (strOfNums (ownL N l x).1), .string (strOfNums (ownL N l x).2.1), .int .i64 (ownL N l x).2.2]) ∧ Keep (fun _ => False) w wz)) := fun wz hz => by
      have e : ownL N l x = ((cloneL N l (nameS x.a) (nameS x.b)).1, [], (cloneL N l (nameS x.a) (nameS x.b)).2) := by unfold ownL; rw [if_neg c0]; rw [if_neg c1]; rw [if_neg c2]; rw [if_pos c3]
      rw [e]
      exact ⟨rfl, hback.out hz⟩
    clear c3
    go_enter Tryz.func23, Tryz.ntmps23
    go_upto_region 4 with fail
    rw [← hw1'.out, ← hgb]
    clear hgb hw1 hw1'
    go_upto_region 12 with fail
    clear c0 d0 c1 d1 c2 d2 d3 y0
    refine wp_region_noPanic ?_
    refine wp_region_held_drew (S := fun w' => Keep (fun _ => False) w1 w') (by kernel_rfl) ((Keep.refl _ _).drew) (fun hH0 => ?_)
    refine tk 0 hH0 ?_
    refine tk 1 hH0 ?_
    refine tk 2 hH0 ?_ (hy := Or.inl ⟨by rfl, by intro w' hSw; have hz := hBk.out w' hSw; clear hSw; have z : w'.cell? ⟨gb, 1, none⟩ = some (.int .i64 x.a) := (hz 1 (by omega)).1; clear hz; go_simp; try with_reducible rfl⟩)
    refine tk 4 hH0 ?_
    refine tk 5 hH0 ?_ (hy := Or.inl ⟨by rfl, by intro w' hSw; have hz := hBk.out w' hSw; clear hSw; have z : w'.cell? ⟨gb, 2, none⟩ = some (.int .i64 x.b) := (hz 2 (by omega)).1; clear hz; go_simp; try with_reducible rfl⟩)
    refine rd 3 (fun K hK => ?_)
    refine step_call_want (vs := #[.int .i64 x.a]) (R := fun v wz => v = .string (nameS x.a) ∧ Keep (fun _ => False) (w1.drew) wz) (by rfl) 47 _ _ rfl (by simp [Act.eval]) gcName ((name25 x.a (w1.drew)).mono (by rintro e wz ⟨rfl, k⟩; exact ⟨_, rfl, rfl, k⟩)) ?_
    rintro v wn1 ⟨rfl, kn1⟩
    refine hK.out _ _ ((((Keep.refl _ _).drew).trans kn1)) (fun hH1 => ?_)
    clear hK K
    simp only [Act.put, List.setIfInBounds_toArray, List.set_cons_zero, List.set_cons_succ]
    refine rd 6 (fun K hK => ?_)
    refine step_call_want (vs := #[.int .i64 x.b]) (R := fun v wz => v = .string (nameS x.b) ∧ Keep (fun _ => False) (wn1) wz) (by rfl) 47 _ _ rfl (by simp [Act.eval]) gcName ((name25 x.b (wn1)).mono (by rintro e wz ⟨rfl, k⟩; exact ⟨_, rfl, rfl, k⟩)) ?_
    rintro v wn2 ⟨rfl, kn2⟩
    refine hK.out _ _ (((((Keep.refl _ _).drew).trans kn1).trans kn2)) (fun hH2 => ?_)
    clear hK K
    simp only [Act.put, List.setIfInBounds_toArray, List.set_cons_zero, List.set_cons_succ]
    refine rd 7 (fun K hK => ?_)
    refine step_call_want (vs := #[.string T, .string (nameS x.a), .string (nameS x.b)]) (R := fun v wz => v = .tuple #[.string (strOfNums (cloneL N l (nameS x.a) (nameS x.b)).1), .int .i64 (cloneL N l (nameS x.a) (nameS x.b)).2] ∧ Keep (fun _ => False) (wn2) wz) (by rfl) 51 _ _ rfl (by simp [Act.eval]) gcoClone ((hcl.out (wn2)).mono (by rintro e wz ⟨rfl, k⟩; exact ⟨_, rfl, rfl, k⟩)) ?_
    rintro v wc ⟨rfl, kc⟩
    refine hK.out _ _ ((((((Keep.refl _ _).drew).trans kn1).trans kn2).trans kc)) (fun hH3 => ?_)
    clear hK K
    simp only [Act.put, List.setIfInBounds_toArray, List.set_cons_zero, List.set_cons_succ]
    refine tk 8 hH3 ?_
    refine tk 9 hH3 ?_
    refine tk 10 hH3 ?_
    refine tk 11 hH3 ?_
    refine tk 12 hH3 ?_
    refine wpAnyH_done (by kernel_rfl) ?_ _
    refine NoPanic.normal ?_
    have hres := hend.out wc (((((Keep.refl _ _).drew).trans kn1).trans kn2).trans kc)
    go_wp2_with fail
    go_ret3
    exact hres
  have d3 : (x.op == 3) = false := by simp [c3]
  by_cases c4 : x.op = 4
  · have d4 : (x.op == 4) = true := by simp [c4]
    have e4 : (x.op == 4) = true := d4
    have e5 : (x.op == 5) = false := by simp [c4]
    rcases hbd.out with hb | ⟨hb, a, k, ha, hk, hk1, ha8, hak⟩
    · have hne : ¬ (placeL N l (nameS x.a) x.p x.n).2 = 0 := by rcases hb with h | h <;> rw [h] <;> decide
      have hne2 : ((placeL N l (nameS x.a) x.p x.n).2 == 0) = false := by simp [hne]
      have hend : RowKit.Hid (∀ wz, Keep (fun _ => False) w1 wz → (Ending.returned (.tuple #[.string T, .string ⟨#[]⟩, .int .i64 (placeL N l (nameS x.a) x.p x.n).2]) = .returned (.tuple #[.string (strOfNums (ownL N l x).1), .string (strOfNums (ownL N l x).2.1), .int .i64 (ownL N l x).2.2]) ∧ Keep (fun _ => False) w wz)) := fun wz hz => by
        have e : ownL N l x = (l, [], (placeL N l (nameS x.a) x.p x.n).2) := by unfold ownL; rw [if_neg c0]; rw [if_neg c1]; rw [if_neg c2]; rw [if_neg c3]; rw [if_pos c4]; rw [if_neg hne]
        rw [e]
        exact ⟨by rw [hT'.out] <;> rfl, hback.out hz⟩
      clear hb c4
      go_enter Tryz.func23, Tryz.ntmps23
      go_upto_region 4 with fail
      rw [← hw1'.out, ← hgb]
      clear hgb hw1 hw1'
      go_upto_region 15 with fail
      refine wp_region_noPanic ?_
      refine wp_region_held_drew (S := fun w' => Keep (fun _ => False) w1 w') (by kernel_rfl) ((Keep.refl _ _).drew) (fun hH0 => ?_)
      refine tk 0 hH0 ?_
      refine tk 1 hH0 ?_
      refine tk 2 hH0 ?_ (hy := Or.inl ⟨by rfl, by intro w' hSw; have hz := hBk.out w' hSw; clear hSw; have z : w'.cell? ⟨gb, 1, none⟩ = some (.int .i64 x.a) := (hz 1 (by omega)).1; clear hz; go_simp; try with_reducible rfl⟩)
      refine tk 4 hH0 ?_
      refine tk 5 hH0 ?_ (hy := Or.inl ⟨by rfl, by intro w' hSw; have hz := hBk.out w' hSw; clear hSw; have z : w'.cell? ⟨gb, 3, none⟩ = some (.int .i64 x.p) := (hz 3 (by omega)).1; clear hz; go_simp; try with_reducible rfl⟩)
      refine tk 6 hH0 ?_
      refine tk 7 hH0 ?_ (hy := Or.inl ⟨by rfl, by intro w' hSw; have hz := hBk.out w' hSw; clear hSw; have z : w'.cell? ⟨gb, 4, none⟩ = some (.int .i64 x.n) := (hz 4 (by omega)).1; clear hz; go_simp; try with_reducible rfl⟩)
      refine rd 3 (fun K hK => ?_)
      refine step_call_want (vs := #[.int .i64 x.a]) (R := fun v wz => v = .string (nameS x.a) ∧ Keep (fun _ => False) (w1.drew) wz) (by rfl) 47 _ _ rfl (by simp [Act.eval]) gcName ((name25 x.a (w1.drew)).mono (by rintro e wz ⟨rfl, k⟩; exact ⟨_, rfl, rfl, k⟩)) ?_
      rintro v wn1 ⟨rfl, kn1⟩
      refine hK.out _ _ ((((Keep.refl _ _).drew).trans kn1)) (fun hH1 => ?_)
      clear hK K
      simp only [Act.put, List.setIfInBounds_toArray, List.set_cons_zero, List.set_cons_succ]
      refine rd 8 (fun K hK => ?_)
      refine step_call_want (vs := #[.string T, .string (nameS x.a), .int .i64 x.p, .int .i64 x.n]) (R := fun v wz => v = .tuple #[.int .i64 (placeL N l (nameS x.a) x.p x.n).1, .int .i64 (placeL N l (nameS x.a) x.p x.n).2] ∧ Keep (fun _ => False) (wn1) wz) (by rfl) 52 _ _ rfl (by simp [Act.eval]) gcoPlace ((hpl.out (wn1)).mono (by rintro e wz ⟨rfl, k⟩; exact ⟨_, rfl, rfl, k⟩)) ?_
      rintro v wc ⟨rfl, kc⟩
      refine hK.out _ _ (((((Keep.refl _ _).drew).trans kn1).trans kc)) (fun hH2 => ?_)
      clear hK K
      simp only [Act.put, List.setIfInBounds_toArray, List.set_cons_zero, List.set_cons_succ]
      refine tk 9 hH2 ?_
      refine tk 10 hH2 ?_
      refine tk 11 hH2 ?_
      refine tk 12 hH2 ?_
      refine tk 13 hH2 ?_
      refine wpAnyH_done (by kernel_rfl) ?_ _
      refine NoPanic.normal ?_
      have hres := hend.out wc ((((Keep.refl _ _).drew).trans kn1).trans kc)
      generalize placeL N l (nameS x.a) x.p x.n = PP at *
      obtain ⟨P1, P2⟩ := PP
      go_wp2_with fail
      go_ret3
      exact hres
    · have hbq : (placeL N l (nameS x.a) x.p x.n).2 = 0 := hb
      have hPe : placeL N l (nameS x.a) x.p x.n = ((a : Int), 0) := Prod.ext ha hb
      have hok : okR N a k = true := okR_iff.2 ⟨by omega, by omega, by omega⟩
      have hend : RowKit.Hid (∀ wz, Keep (fun _ => False) w1 wz → (Ending.returned (.tuple #[.string (strOfNums (wrL l a k (nums x.d))), .string ⟨#[]⟩, .int .i64 0]) = .returned (.tuple #[.string (strOfNums (ownL N l x).1), .string (strOfNums (ownL N l x).2.1), .int .i64 (ownL N l x).2.2]) ∧ Keep (fun _ => False) w wz)) := fun wz hz => by
        have e : ownL N l x = (wrL l a k (nums x.d), [], 0) := by unfold ownL; rw [if_neg c0]; rw [if_neg c1]; rw [if_neg c2]; rw [if_neg c3]; rw [if_pos c4]; rw [if_pos hbq, hPe, hk]; try rfl
        rw [e]
        exact ⟨rfl, hback.out hz⟩
      have hc := hwr.out a k hok
      have hkx : RowKit.Hid (x.n = (k : Int)) := hk
      have hPh : RowKit.Hid (placeL N l (nameS x.a) x.p x.n = ((a : Int), 0)) := hPe
      clear c4 hb ha hk hk1 ha8 hak hok hbq hPe
      go_enter Tryz.func23, Tryz.ntmps23
      go_upto_region 4 with fail
      rw [← hw1'.out, ← hgb]
      clear hgb hw1 hw1'
      go_upto_region 15 with fail
      refine wp_region_noPanic ?_
      refine wp_region_held_drew (S := fun w' => Keep (fun _ => False) w1 w') (by kernel_rfl) ((Keep.refl _ _).drew) (fun hH0 => ?_)
      refine tk 0 hH0 ?_
      refine tk 1 hH0 ?_
      refine tk 2 hH0 ?_ (hy := Or.inl ⟨by rfl, by intro w' hSw; have hz := hBk.out w' hSw; clear hSw; have z : w'.cell? ⟨gb, 1, none⟩ = some (.int .i64 x.a) := (hz 1 (by omega)).1; clear hz; go_simp; try with_reducible rfl⟩)
      refine tk 4 hH0 ?_
      refine tk 5 hH0 ?_ (hy := Or.inl ⟨by rfl, by intro w' hSw; have hz := hBk.out w' hSw; clear hSw; have z : w'.cell? ⟨gb, 3, none⟩ = some (.int .i64 x.p) := (hz 3 (by omega)).1; clear hz; go_simp; try with_reducible rfl⟩)
      refine tk 6 hH0 ?_
      refine tk 7 hH0 ?_ (hy := Or.inl ⟨by rfl, by intro w' hSw; have hz := hBk.out w' hSw; clear hSw; have z : w'.cell? ⟨gb, 4, none⟩ = some (.int .i64 x.n) := (hz 4 (by omega)).1; clear hz; go_simp; try with_reducible rfl⟩)
      refine rd 3 (fun K hK => ?_)
      refine step_call_want (vs := #[.int .i64 x.a]) (R := fun v wz => v = .string (nameS x.a) ∧ Keep (fun _ => False) (w1.drew) wz) (by rfl) 47 _ _ rfl (by simp [Act.eval]) gcName ((name25 x.a (w1.drew)).mono (by rintro e wz ⟨rfl, k⟩; exact ⟨_, rfl, rfl, k⟩)) ?_
      rintro v wn1 ⟨rfl, kn1⟩
      refine hK.out _ _ ((((Keep.refl _ _).drew).trans kn1)) (fun hH1 => ?_)
      clear hK K
      simp only [Act.put, List.setIfInBounds_toArray, List.set_cons_zero, List.set_cons_succ]
      refine rd 8 (fun K hK => ?_)
      refine step_call_want (vs := #[.string T, .string (nameS x.a), .int .i64 x.p, .int .i64 x.n]) (R := fun v wz => v = .tuple #[.int .i64 (placeL N l (nameS x.a) x.p x.n).1, .int .i64 (placeL N l (nameS x.a) x.p x.n).2] ∧ Keep (fun _ => False) (wn1) wz) (by rfl) 52 _ _ rfl (by simp [Act.eval]) gcoPlace ((hpl.out (wn1)).mono (by rintro e wz ⟨rfl, k⟩; exact ⟨_, rfl, rfl, k⟩)) ?_
      rintro v wc ⟨rfl, kc⟩
      refine hK.out _ _ (((((Keep.refl _ _).drew).trans kn1).trans kc)) (fun hH2 => ?_)
      clear hK K
      simp only [Act.put, List.setIfInBounds_toArray, List.set_cons_zero, List.set_cons_succ]
      refine tk 9 hH2 ?_
      refine tk 10 hH2 ?_
      refine tk 11 hH2 ?_
      refine tk 12 hH2 ?_
      refine tk 13 hH2 ?_
      refine wpAnyH_done (by kernel_rfl) ?_ _
      refine NoPanic.normal ?_
      rw [hPh.out]
      have kw : RowKit.Hid (Keep (fun _ => False) w1 wc) := ((((Keep.refl _ _).drew).trans kn1).trans kc)
      have z4 : (wc).cell? ⟨gb, 4, none⟩ = some (.int .i64 (k : Int)) := by rw [← hkx.out]; exact ((hBk.out _ kw.out) 4 (by omega)).1
      have z5 : (wc).cell? ⟨gb, 5, none⟩ = some (.string x.d) := ((hBk.out _ kw.out) 5 (by omega)).1
      have z0 : (wc).cell? ⟨gb, 0, none⟩ = some (.int .i64 x.op) := ((hBk.out _ kw.out) 0 (by omega)).1
      have hc2 := hc (wc)
      clear hc y0
      go_wp2_with fail
      refine hc2.mono ?_
      rintro e wf ⟨rfl, kf⟩
      clear hc2
      have z0f : wf.cell? ⟨gb, 0, none⟩ = some (.int .i64 x.op) := ((hBk.out _ (kw.out.trans kf)) 0 (by omega)).1
      have hres := hend.out wf (kw.out.trans kf)
      clear z0 z4 z5
      go_wp2_with fail
      go_ret3
      exact hres
  have d4 : (x.op == 4) = false := by simp [c4]
  by_cases c5 : x.op = 5
  · have d5 : (x.op == 5) = true := by simp [c5]
    have e4 : (x.op == 4) = false := d4
    have e5 : (x.op == 5) = true := d5
    rcases hbd.out with hb | ⟨hb, a, k, ha, hk, hk1, ha8, hak⟩
    · have hne : ¬ (placeL N l (nameS x.a) x.p x.n).2 = 0 := by rcases hb with h | h <;> rw [h] <;> decide
      have hne2 : ((placeL N l (nameS x.a) x.p x.n).2 == 0) = false := by simp [hne]
      have hend : RowKit.Hid (∀ wz, Keep (fun _ => False) w1 wz → (Ending.returned (.tuple #[.string T, .string ⟨#[]⟩, .int .i64 (placeL N l (nameS x.a) x.p x.n).2]) = .returned (.tuple #[.string (strOfNums (ownL N l x).1), .string (strOfNums (ownL N l x).2.1), .int .i64 (ownL N l x).2.2]) ∧ Keep (fun _ => False) w wz)) := fun wz hz => by
        have e : ownL N l x = (l, [], (placeL N l (nameS x.a) x.p x.n).2) := by unfold ownL; rw [if_neg c0]; rw [if_neg c1]; rw [if_neg c2]; rw [if_neg c3]; rw [if_neg c4]; rw [if_pos c5]; rw [if_neg hne]
        rw [e]
        exact ⟨by rw [hT'.out] <;> rfl, hback.out hz⟩
      clear hb c5
      go_enter Tryz.func23, Tryz.ntmps23
      go_upto_region 4 with fail
      rw [← hw1'.out, ← hgb]
      clear hgb hw1 hw1'
      go_upto_region 15 with fail
      refine wp_region_noPanic ?_
      refine wp_region_held_drew (S := fun w' => Keep (fun _ => False) w1 w') (by kernel_rfl) ((Keep.refl _ _).drew) (fun hH0 => ?_)
      refine tk 0 hH0 ?_
      refine tk 1 hH0 ?_
      refine tk 2 hH0 ?_ (hy := Or.inl ⟨by rfl, by intro w' hSw; have hz := hBk.out w' hSw; clear hSw; have z : w'.cell? ⟨gb, 1, none⟩ = some (.int .i64 x.a) := (hz 1 (by omega)).1; clear hz; go_simp; try with_reducible rfl⟩)
      refine tk 4 hH0 ?_
      refine tk 5 hH0 ?_ (hy := Or.inl ⟨by rfl, by intro w' hSw; have hz := hBk.out w' hSw; clear hSw; have z : w'.cell? ⟨gb, 3, none⟩ = some (.int .i64 x.p) := (hz 3 (by omega)).1; clear hz; go_simp; try with_reducible rfl⟩)
      refine tk 6 hH0 ?_
      refine tk 7 hH0 ?_ (hy := Or.inl ⟨by rfl, by intro w' hSw; have hz := hBk.out w' hSw; clear hSw; have z : w'.cell? ⟨gb, 4, none⟩ = some (.int .i64 x.n) := (hz 4 (by omega)).1; clear hz; go_simp; try with_reducible rfl⟩)
      refine rd 3 (fun K hK => ?_)
      refine step_call_want (vs := #[.int .i64 x.a]) (R := fun v wz => v = .string (nameS x.a) ∧ Keep (fun _ => False) (w1.drew) wz) (by rfl) 47 _ _ rfl (by simp [Act.eval]) gcName ((name25 x.a (w1.drew)).mono (by rintro e wz ⟨rfl, k⟩; exact ⟨_, rfl, rfl, k⟩)) ?_
      rintro v wn1 ⟨rfl, kn1⟩
      refine hK.out _ _ ((((Keep.refl _ _).drew).trans kn1)) (fun hH1 => ?_)
      clear hK K
      simp only [Act.put, List.setIfInBounds_toArray, List.set_cons_zero, List.set_cons_succ]
      refine rd 8 (fun K hK => ?_)
      refine step_call_want (vs := #[.string T, .string (nameS x.a), .int .i64 x.p, .int .i64 x.n]) (R := fun v wz => v = .tuple #[.int .i64 (placeL N l (nameS x.a) x.p x.n).1, .int .i64 (placeL N l (nameS x.a) x.p x.n).2] ∧ Keep (fun _ => False) (wn1) wz) (by rfl) 52 _ _ rfl (by simp [Act.eval]) gcoPlace ((hpl.out (wn1)).mono (by rintro e wz ⟨rfl, k⟩; exact ⟨_, rfl, rfl, k⟩)) ?_
      rintro v wc ⟨rfl, kc⟩
      refine hK.out _ _ (((((Keep.refl _ _).drew).trans kn1).trans kc)) (fun hH2 => ?_)
      clear hK K
      simp only [Act.put, List.setIfInBounds_toArray, List.set_cons_zero, List.set_cons_succ]
      refine tk 9 hH2 ?_
      refine tk 10 hH2 ?_
      refine tk 11 hH2 ?_
      refine tk 12 hH2 ?_
      refine tk 13 hH2 ?_
      refine wpAnyH_done (by kernel_rfl) ?_ _
      refine NoPanic.normal ?_
      have hres := hend.out wc ((((Keep.refl _ _).drew).trans kn1).trans kc)
      generalize placeL N l (nameS x.a) x.p x.n = PP at *
      obtain ⟨P1, P2⟩ := PP
      go_wp2_with fail
      go_ret3
      exact hres
    · have hbq : (placeL N l (nameS x.a) x.p x.n).2 = 0 := hb
      have hPe : placeL N l (nameS x.a) x.p x.n = ((a : Int), 0) := Prod.ext ha hb
      have hok : okR N a k = true := okR_iff.2 ⟨by omega, by omega, by omega⟩
      have hend : RowKit.Hid (∀ wz, Keep (fun _ => False) w1 wz → (Ending.returned (.tuple #[.string T, .string (strOfNums (rdL l a k)), .int .i64 0]) = .returned (.tuple #[.string (strOfNums (ownL N l x).1), .string (strOfNums (ownL N l x).2.1), .int .i64 (ownL N l x).2.2]) ∧ Keep (fun _ => False) w wz)) := fun wz hz => by
        have e : ownL N l x = (l, rdL l a k, 0) := by unfold ownL; rw [if_neg c0]; rw [if_neg c1]; rw [if_neg c2]; rw [if_neg c3]; rw [if_neg c4]; rw [if_pos c5]; rw [if_pos hbq, hPe, hk]; try rfl
        rw [e]
        exact ⟨by rw [hT'.out] <;> rfl, hback.out hz⟩
      have hc := hrd.out a k hok
      have hkx : RowKit.Hid (x.n = (k : Int)) := hk
      have hPh : RowKit.Hid (placeL N l (nameS x.a) x.p x.n = ((a : Int), 0)) := hPe
      clear c5 hb ha hk hk1 ha8 hak hok hbq hPe
      go_enter Tryz.func23, Tryz.ntmps23
      go_upto_region 4 with fail
      rw [← hw1'.out, ← hgb]
      clear hgb hw1 hw1'
      go_upto_region 15 with fail
      refine wp_region_noPanic ?_
      refine wp_region_held_drew (S := fun w' => Keep (fun _ => False) w1 w') (by kernel_rfl) ((Keep.refl _ _).drew) (fun hH0 => ?_)
      refine tk 0 hH0 ?_
      refine tk 1 hH0 ?_
      refine tk 2 hH0 ?_ (hy := Or.inl ⟨by rfl, by intro w' hSw; have hz := hBk.out w' hSw; clear hSw; have z : w'.cell? ⟨gb, 1, none⟩ = some (.int .i64 x.a) := (hz 1 (by omega)).1; clear hz; go_simp; try with_reducible rfl⟩)
      refine tk 4 hH0 ?_
      refine tk 5 hH0 ?_ (hy := Or.inl ⟨by rfl, by intro w' hSw; have hz := hBk.out w' hSw; clear hSw; have z : w'.cell? ⟨gb, 3, none⟩ = some (.int .i64 x.p) := (hz 3 (by omega)).1; clear hz; go_simp; try with_reducible rfl⟩)
      refine tk 6 hH0 ?_
      refine tk 7 hH0 ?_ (hy := Or.inl ⟨by rfl, by intro w' hSw; have hz := hBk.out w' hSw; clear hSw; have z : w'.cell? ⟨gb, 4, none⟩ = some (.int .i64 x.n) := (hz 4 (by omega)).1; clear hz; go_simp; try with_reducible rfl⟩)
      refine rd 3 (fun K hK => ?_)
      refine step_call_want (vs := #[.int .i64 x.a]) (R := fun v wz => v = .string (nameS x.a) ∧ Keep (fun _ => False) (w1.drew) wz) (by rfl) 47 _ _ rfl (by simp [Act.eval]) gcName ((name25 x.a (w1.drew)).mono (by rintro e wz ⟨rfl, k⟩; exact ⟨_, rfl, rfl, k⟩)) ?_
      rintro v wn1 ⟨rfl, kn1⟩
      refine hK.out _ _ ((((Keep.refl _ _).drew).trans kn1)) (fun hH1 => ?_)
      clear hK K
      simp only [Act.put, List.setIfInBounds_toArray, List.set_cons_zero, List.set_cons_succ]
      refine rd 8 (fun K hK => ?_)
      refine step_call_want (vs := #[.string T, .string (nameS x.a), .int .i64 x.p, .int .i64 x.n]) (R := fun v wz => v = .tuple #[.int .i64 (placeL N l (nameS x.a) x.p x.n).1, .int .i64 (placeL N l (nameS x.a) x.p x.n).2] ∧ Keep (fun _ => False) (wn1) wz) (by rfl) 52 _ _ rfl (by simp [Act.eval]) gcoPlace ((hpl.out (wn1)).mono (by rintro e wz ⟨rfl, k⟩; exact ⟨_, rfl, rfl, k⟩)) ?_
      rintro v wc ⟨rfl, kc⟩
      refine hK.out _ _ (((((Keep.refl _ _).drew).trans kn1).trans kc)) (fun hH2 => ?_)
      clear hK K
      simp only [Act.put, List.setIfInBounds_toArray, List.set_cons_zero, List.set_cons_succ]
      refine tk 9 hH2 ?_
      refine tk 10 hH2 ?_
      refine tk 11 hH2 ?_
      refine tk 12 hH2 ?_
      refine tk 13 hH2 ?_
      refine wpAnyH_done (by kernel_rfl) ?_ _
      refine NoPanic.normal ?_
      rw [hPh.out]
      have kw : RowKit.Hid (Keep (fun _ => False) w1 wc) := ((((Keep.refl _ _).drew).trans kn1).trans kc)
      have z4 : (wc).cell? ⟨gb, 4, none⟩ = some (.int .i64 (k : Int)) := by rw [← hkx.out]; exact ((hBk.out _ kw.out) 4 (by omega)).1
      have z5 : (wc).cell? ⟨gb, 5, none⟩ = some (.string x.d) := ((hBk.out _ kw.out) 5 (by omega)).1
      have z0 : (wc).cell? ⟨gb, 0, none⟩ = some (.int .i64 x.op) := ((hBk.out _ kw.out) 0 (by omega)).1
      have hc2 := hc (wc)
      clear hc y0
      go_wp2_with fail
      refine hc2.mono ?_
      rintro e wf ⟨rfl, kf⟩
      have kk : Keep (fun _ => False) (wc) wf := by rw [kf]; exact Keep.refl _ _
      clear kf
      have kf := kk
      clear hc2
      have hres := hend.out wf (kw.out.trans kf)
      clear z0 z4 z5
      go_wp2_with fail
      go_ret3
      exact hres
  have d5 : (x.op == 5) = false := by simp [c5]
  have hend : RowKit.Hid (∀ wz, Keep (fun _ => False) w1 wz → (Ending.returned (.tuple #[.string T, .string ⟨#[]⟩, .int .i64 0]) = .returned (.tuple #[.string (strOfNums (ownL N l x).1), .string (strOfNums (ownL N l x).2.1), .int .i64 (ownL N l x).2.2]) ∧ Keep (fun _ => False) w wz)) := fun wz hz => by
    have e : ownL N l x = (l, [], 0) := by unfold ownL; rw [if_neg c0]; rw [if_neg c1]; rw [if_neg c2]; rw [if_neg c3]; rw [if_neg c4]; rw [if_neg c5]
    rw [e]
    exact ⟨by rw [hT'.out] <;> rfl, hback.out hz⟩
  have hres := hend.out w1 (Keep.refl _ _)
  go_enter Tryz.func23, Tryz.ntmps23
  go_upto_region 4 with fail
  rw [← hw1'.out, ← hgb]
  clear hgb hw1 hw1'
  go_wp2_with fail
  go_ret3
  exact hres
end Tg
end Go.Proofs.YtjgnajopomadpaaGreat
