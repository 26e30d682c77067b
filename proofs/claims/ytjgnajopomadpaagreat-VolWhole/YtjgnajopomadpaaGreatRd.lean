/-
  The law's own name, step, own, given what a store's calls answer.
-/
import Derived.Test.YtjgnajopomadpaaGreatRb
namespace Go.Proofs.YtjgnajopomadpaaGreat
open Go.ChangeShapes Go.WideShapes Go.ChangeAt Go.RowKit
namespace Tg
open Qm Crc
theorem and7 (v : Int) : ∃ j : Nat, j < 8 ∧ bits .and .i64 v 7 = (j : Int) := by
  refine ⟨(BitVec.ofInt 64 v &&& BitVec.ofInt 64 7).toNat, ?_, ?_⟩
  · rw [BitVec.toNat_and]
    exact Nat.and_lt_two_pow (n := 3) _ (by decide)
  · have h : (BitVec.ofInt 64 v &&& BitVec.ofInt 64 7).toNat < 8 := by
      rw [BitVec.toNat_and]
      exact Nat.and_lt_two_pow (n := 3) _ (by decide)
    show IntKind.i64.wrap ((BitVec.ofInt 64 v &&& BitVec.ofInt 64 7).toNat : Int) = _
    rw [IntKind.wrap_i64]
    omega
def nmL : List ByteArray := [⟨#[97]⟩, ⟨#[98]⟩, ⟨#[195, 169]⟩, ⟨#[108, 111, 110, 103, 32, 110, 97, 109, 101]⟩, ⟨#[115, 105, 120, 116, 101, 101, 110, 45, 98, 121, 116, 101, 115, 45, 120, 120]⟩, ⟨#[115, 101, 118, 101, 110, 116, 101, 101, 110, 45, 98, 121, 116, 101, 115, 45, 120]⟩, ⟨#[]⟩, ⟨#[99]⟩]
/-- A name by its number. -/
def nameS (n : Int) : ByteArray := nmL.getD (bits .and .i64 n 7).toNat ⟨#[]⟩
theorem nameS_size (n : Int) : (nameS n).size ≤ 9223372036854775807 := by
  obtain ⟨j, hj, e⟩ := and7 n
  unfold nameS
  rw [e]
  rcases (by omega : j = 0 ∨ j = 1 ∨ j = 2 ∨ j = 3 ∨ j = 4 ∨ j = 5 ∨ j = 6 ∨ j = 7) with rfl | rfl | rfl | rfl | rfl | rfl | rfl | rfl <;> decide
set_option maxRecDepth 100000 in
set_option maxHeartbeats 2000000 in
theorem name25 (n : Int) (w : World) : Calls Tryz.prog 47 #[.int .i64 n] w fun e w' => e = .returned (.string (nameS n)) ∧ Keep (fun _ => False) w w' := by
  obtain ⟨j, hj, hb⟩ := and7 n
  have hn : RowKit.Hid (nameS n = nmL.getD j ⟨#[]⟩) := by show _ = _; unfold nameS; rw [hb]; rfl
  have hK : ∀ o, RowKit.Hid (Keep (fun _ => False) w (w.alloc o)) := fun o => (Keep.refl _ _).alloc o
  rcases (by omega : j = 0 ∨ j = 1 ∨ j = 2 ∨ j = 3 ∨ j = 4 ∨ j = 5 ∨ j = 6 ∨ j = 7) with rfl | rfl | rfl | rfl | rfl | rfl | rfl | rfl
  all_goals
    clear hj
    go_enter Tryz.func47, Tryz.ntmps47
    go_wp2_with fail
    go_ret
    exact ⟨by rw [hn.out]; rfl, hK _⟩
/-- A call of the law. -/
structure Ac where
  op : Int
  a : Int
  b : Int
  p : Int
  n : Int
  d : ByteArray
def acA (x : Ac) : Array Value := #[.int .i64 x.op, .int .i64 x.a, .int .i64 x.b, .int .i64 x.p, .int .i64 x.n, .string x.d]
def acC (x : Ac) (j : Nat) : Value := if j = 0 then .int .i64 x.op else if j = 1 then .int .i64 x.a else if j = 2 then .int .i64 x.b else if j = 3 then .int .i64 x.p else if j = 4 then .int .i64 x.n else .string x.d
structure Ac.Ok (x : Ac) : Prop where
  p : I64 x.p
  n : I64 x.n
  d : x.d.size ≤ 9223372036854775807
/-- What a call of a store leaves, and what it read. -/
def stepS (N : Nat) (l : List Int) (s : Nat → Option En) (x : Ac) : Rs × List Int :=
  if x.op = 0 then (createS N l s (nameS x.a) x.n, []) else if x.op = 1 then (deleteS l s (nameS x.a), []) else if x.op = 2 then (renameS l s (nameS x.a) (nameS x.b), []) else if x.op = 3 then (cloneS N l s (nameS x.a) (nameS x.b), []) else if x.op = 4 then (writeS l s (nameS x.a) x.p x.n x.d, []) else if x.op = 5 then (⟨l, s, (readS l s (nameS x.a) x.p x.n).2⟩, (readS l s (nameS x.a) x.p x.n).1) else (⟨l, s, 0⟩, [])
/-- The same of the sectors alone. -/
def ownL (N : Nat) (l : List Int) (x : Ac) : List Int × List Int × Int :=
  if x.op = 0 then ((createL N l (nameS x.a) x.n).1, [], (createL N l (nameS x.a) x.n).2) else if x.op = 1 then ((deleteL N l (nameS x.a)).1, [], (deleteL N l (nameS x.a)).2) else if x.op = 2 then ((renameL N l (nameS x.a) (nameS x.b)).1, [], (renameL N l (nameS x.a) (nameS x.b)).2) else if x.op = 3 then ((cloneL N l (nameS x.a) (nameS x.b)).1, [], (cloneL N l (nameS x.a) (nameS x.b)).2)
  else if x.op = 4 then (if (placeL N l (nameS x.a) x.p x.n).2 = 0 then (wrL l (placeL N l (nameS x.a) x.p x.n).1.toNat x.n.toNat (nums x.d), [], 0) else (l, [], (placeL N l (nameS x.a) x.p x.n).2)) else if x.op = 5 then (if (placeL N l (nameS x.a) x.p x.n).2 = 0 then (l, rdL l (placeL N l (nameS x.a) x.p x.n).1.toNat x.n.toNat, 0) else (l, [], (placeL N l (nameS x.a) x.p x.n).2)) else (l, [], 0)
set_option maxRecDepth 100000 in
theorem gcName (args : Array Value) (w : World) : (callFunc 47 args).run Tryz.prog w = .ok (.enter 47 args) w := enters Tryz.func47 (by kernel_rfl) (by kernel_rfl) args w
set_option maxRecDepth 100000 in
theorem gcCreate (args : Array Value) (w : World) : (callFunc 11 args).run Tryz.prog w = .ok (.enter 11 args) w := enters Tryz.func11 (by kernel_rfl) (by kernel_rfl) args w
set_option maxRecDepth 100000 in
theorem gcDelete (args : Array Value) (w : World) : (callFunc 13 args).run Tryz.prog w = .ok (.enter 13 args) w := enters Tryz.func13 (by kernel_rfl) (by kernel_rfl) args w
set_option maxRecDepth 100000 in
theorem gcRename (args : Array Value) (w : World) : (callFunc 14 args).run Tryz.prog w = .ok (.enter 14 args) w := enters Tryz.func14 (by kernel_rfl) (by kernel_rfl) args w
set_option maxRecDepth 100000 in
theorem gcClone (args : Array Value) (w : World) : (callFunc 28 args).run Tryz.prog w = .ok (.enter 28 args) w := enters Tryz.func28 (by kernel_rfl) (by kernel_rfl) args w
set_option maxRecDepth 100000 in
theorem gcWrite (args : Array Value) (w : World) : (callFunc 27 args).run Tryz.prog w = .ok (.enter 27 args) w := enters Tryz.func27 (by kernel_rfl) (by kernel_rfl) args w
set_option maxRecDepth 100000 in
theorem gcRead (args : Array Value) (w : World) : (callFunc 12 args).run Tryz.prog w = .ok (.enter 12 args) w := enters Tryz.func12 (by kernel_rfl) (by kernel_rfl) args w
set_option maxRecDepth 100000 in
theorem gcoCreate (args : Array Value) (w : World) : (callFunc 48 args).run Tryz.prog w = .ok (.enter 48 args) w := enters Tryz.func48 (by kernel_rfl) (by kernel_rfl) args w
set_option maxRecDepth 100000 in
theorem gcoDelete (args : Array Value) (w : World) : (callFunc 49 args).run Tryz.prog w = .ok (.enter 49 args) w := enters Tryz.func49 (by kernel_rfl) (by kernel_rfl) args w
set_option maxRecDepth 100000 in
theorem gcoRename (args : Array Value) (w : World) : (callFunc 50 args).run Tryz.prog w = .ok (.enter 50 args) w := enters Tryz.func50 (by kernel_rfl) (by kernel_rfl) args w
set_option maxRecDepth 100000 in
theorem gcoClone (args : Array Value) (w : World) : (callFunc 51 args).run Tryz.prog w = .ok (.enter 51 args) w := enters Tryz.func51 (by kernel_rfl) (by kernel_rfl) args w
set_option maxRecDepth 100000 in
theorem gcoPlace (args : Array Value) (w : World) : (callFunc 52 args).run Tryz.prog w = .ok (.enter 52 args) w := enters Tryz.func52 (by kernel_rfl) (by kernel_rfl) args w
set_option maxRecDepth 100000 in
theorem gcoWrite (args : Array Value) (w : World) : (callFunc 18 args).run Tryz.prog w = .ok (.enter 18 args) w := enters Tryz.func18 (by kernel_rfl) (by kernel_rfl) args w
set_option maxRecDepth 100000 in
theorem gcoRead (args : Array Value) (w : World) : (callFunc 53 args).run Tryz.prog w = .ok (.enter 53 args) w := enters Tryz.func53 (by kernel_rfl) (by kernel_rfl) args w
section
variable {SV : (Nat → Prop) → World → Nat → Nat → Nat → List Int → (Nat → Option En) → Prop}
set_option maxRecDepth 100000 in
set_option maxHeartbeats 8000000 in
theorem step25 (H : StOk SV) {G : Nat → Prop} {w0 w : World} {q p N : Nat} {l : List Int} {s : Nat → Option En} (h : Vf SV G w0 w q p N l s) (x : Ac) (hx : x.Ok) :
    Calls Tryz.prog 22 #[Ptr q, .agg (acA x)] w fun e w' => e = .returned (.tuple #[.string (strOfNums (stepS N l s x).2), .int .i64 (stepS N l s x).1.e]) ∧ Vf SV G w0 w' q p N (stepS N l s x).1.l (stepS N l s x).1.s ∧ Keep (Oth G w0) w w' := by
  have hA : acA x = #[.int .i64 x.op, .int .i64 x.a, .int .i64 x.b, .int .i64 x.p, .int .i64 x.n, .string x.d] := rfl
  rw [hA]
  clear hA
  have hx : RowKit.Hid (x.Ok) := hx
  have K0 : Keep (fun _ => False) w (w.alloc (.cells #[.int .i64 x.op, .int .i64 x.a, .int .i64 x.b, .int .i64 x.p, .int .i64 x.n, .string x.d] 43)) := (Keep.refl _ _).alloc _
  have L1 : Blk (w.alloc (.cells #[.int .i64 x.op, .int .i64 x.a, .int .i64 x.b, .int .i64 x.p, .int .i64 x.n, .string x.d] 43)) w.heap.size 6 (acC x) := blk_alloc w _ 43 6 _ (by intro k hk; rcases (by omega : k = 0 ∨ k = 1 ∨ k = 2 ∨ k = 3 ∨ k = 4 ∨ k = 5) with rfl | rfl | rfl | rfl | rfl | rfl <;> rfl)
  obtain ⟨w1, hw1⟩ : ∃ z, z = w.alloc (.cells #[.int .i64 x.op, .int .i64 x.a, .int .i64 x.b, .int .i64 x.p, .int .i64 x.n, .string x.d] 43) := ⟨_, rfl⟩
  have hlt : w.heap.size < w1.heap.size := by rw [hw1]; simp
  rw [← hw1] at K0 L1
  obtain ⟨gb, hgb⟩ : ∃ z, z = w.heap.size := ⟨_, rfl⟩
  rw [← hgb] at L1 hlt
  have hbase : RowKit.Hid (w0.heap.size ≤ gb) := by have := h.kp.size; show _ ≤ _; omega
  obtain ⟨G1, hG1⟩ : ∃ z : Nat → Prop, z = fun k => G k ∨ k = gb := ⟨_, rfl⟩
  have V1 : Vf SV G1 w0 w1 q p N l s := h.hold H K0 (fun k hk => by rw [hG1] at hk; rcases hk with c | c; exact Or.inl c; exact Or.inr ⟨by omega, by omega⟩)
  have hV : RowKit.Hid (∀ w', Keep (fun _ => False) w1 w' → Vf SV G1 w0 w' q p N l s) := fun w' k => V1.more H k
  have hsub : RowKit.Hid (∀ k, G k → G1 k) := fun k hk => by rw [hG1]; exact Or.inl hk
  have hback : RowKit.Hid (∀ {wa : World}, Keep (Oth G1 w0) w1 wa → Keep (Oth G w0) w wa) := fun k => (K0.mono (fun _ _ e => e.elim)).trans (k.mono (fun b _ e => ⟨e.1, fun c => e.2 (hsub b c)⟩))
  have hBk : RowKit.Hid (∀ w', Keep (Oth G1 w0) w1 w' → Blk w' gb 6 (acC x)) := fun w' k => L1.keep k (fun e => e.2 (by rw [hG1]; exact Or.inr rfl))
  have y0 : w1.cell? ⟨gb, 0, none⟩ = some (.int .i64 x.op) := (L1 0 (by omega)).1
  have hw1' : RowKit.Hid (w1 = w.alloc (.cells #[.int .i64 x.op, .int .i64 x.a, .int .i64 x.b, .int .i64 x.p, .int .i64 x.n, .string x.d] 43)) := hw1
  clear V1 L1 K0 hG1
  by_cases c0 : x.op = 0
  · have d0 : (x.op == 0) = true := by simp [c0]
    have hend : RowKit.Hid (∀ wz, (Vf SV G1 w0 wz q p N (createS N l s (nameS x.a) x.n).l (createS N l s (nameS x.a) x.n).s ∧ Keep (Oth G1 w0) w1 wz) → (Ending.returned (.tuple #[.string ⟨#[]⟩, .int .i64 (createS N l s (nameS x.a) x.n).e]) = .returned (.tuple #[.string (strOfNums (stepS N l s x).2), .int .i64 (stepS N l s x).1.e]) ∧ Vf SV G w0 wz q p N (stepS N l s x).1.l (stepS N l s x).1.s ∧ Keep (Oth G w0) w wz)) := fun wz hz => by
      have e : stepS N l s x = (createS N l s (nameS x.a) x.n, []) := by unfold stepS; rw [if_pos c0]
      rw [e]
      exact ⟨rfl, hz.1.less hsub.out, hback.out hz.2⟩
    clear c0
    go_enter Tryz.func22, Tryz.ntmps22
    go_upto_region 1 with fail
    rw [← hw1'.out, ← hgb]
    clear hgb hw1 hw1' hlt h
    go_upto_region 3 with fail
    clear d0 y0
    refine wp_region_noPanic ?_
    refine wp_region_held_drew (S := fun w' => Keep (Oth G1 w0) w1 w') (by kernel_rfl) ((Keep.refl _ _).drew) (fun hH0 => ?_)
    refine tk 0 hH0 ?_
    refine tk 1 hH0 ?_
    refine tk 2 hH0 ?_ (hy := Or.inl ⟨by rfl, by intro w' hSw; have hz := hBk.out w' hSw; clear hSw; have z : w'.cell? ⟨gb, 1, none⟩ = some (.int .i64 x.a) := (hz 1 (by omega)).1; clear hz; go_simp; try with_reducible rfl⟩)
    refine tk 4 hH0 ?_
    refine tk 5 hH0 ?_ (hy := Or.inl ⟨by rfl, by intro w' hSw; have hz := hBk.out w' hSw; clear hSw; have z : w'.cell? ⟨gb, 4, none⟩ = some (.int .i64 x.n) := (hz 4 (by omega)).1; clear hz; go_simp; try with_reducible rfl⟩)
    refine rd 3 (fun K hK => ?_)
    refine step_call_want (vs := #[.int .i64 x.a]) (R := fun v wz => v = .string (nameS x.a) ∧ Keep (fun _ => False) (w1.drew) wz) (by rfl) 47 _ _ rfl (by simp [Act.eval]) gcName ((name25 x.a (w1.drew)).mono (by rintro e wz ⟨rfl, k⟩; exact ⟨_, rfl, rfl, k⟩)) ?_
    rintro v wn1 ⟨rfl, kn1⟩
    refine hK.out _ _ ((((Keep.refl _ _).drew).trans (kn1.mono (fun _ _ e => e.elim)))) (fun hH1 => ?_)
    clear hK K
    simp only [Act.put, List.setIfInBounds_toArray, List.set_cons_zero, List.set_cons_succ]
    refine rd 6 (fun K hK => ?_)
    have V2 := hV.out (wn1) (((Keep.refl _ _).drew).trans kn1)
    refine step_call_want (vs := #[Ptr q, .string (nameS x.a), .int .i64 x.n]) (R := fun v wz => v = .int .i64 (createS N l s (nameS x.a) x.n).e ∧ Vf SV G1 w0 wz q p N (createS N l s (nameS x.a) x.n).l (createS N l s (nameS x.a) x.n).s ∧ Keep (Oth G1 w0) (wn1) wz) (by rfl) 11 _ _ rfl (by simp [Act.eval]) gcCreate ((vf_create H V2 (nameS x.a) x.n (nameS_size _) hx.n).mono (by rintro e wz ⟨rfl, v2, k⟩; exact ⟨_, rfl, rfl, v2, k⟩)) ?_
    rintro v wc ⟨rfl, vc, kc⟩
    refine hK.out _ _ (((((Keep.refl _ _).drew).trans (kn1.mono (fun _ _ e => e.elim))).trans kc)) (fun hH2 => ?_)
    clear hK K
    simp only [Act.put, List.setIfInBounds_toArray, List.set_cons_zero, List.set_cons_succ]
    refine tk 7 hH2 ?_
    refine tk 8 hH2 ?_
    refine wpAnyH_done (by kernel_rfl) ?_ _
    refine NoPanic.normal ?_
    have hres := hend.out wc ⟨vc, ((((Keep.refl _ _).drew).trans (kn1.mono (fun _ _ e => e.elim))).trans kc)⟩
    go_wp2_with fail
    go_ret2
    exact hres
  have d0 : (x.op == 0) = false := by simp [c0]
  by_cases c1 : x.op = 1
  · have d1 : (x.op == 1) = true := by simp [c1]
    have hend : RowKit.Hid (∀ wz, (Vf SV G1 w0 wz q p N (deleteS l s (nameS x.a)).l (deleteS l s (nameS x.a)).s ∧ Keep (Oth G1 w0) w1 wz) → (Ending.returned (.tuple #[.string ⟨#[]⟩, .int .i64 (deleteS l s (nameS x.a)).e]) = .returned (.tuple #[.string (strOfNums (stepS N l s x).2), .int .i64 (stepS N l s x).1.e]) ∧ Vf SV G w0 wz q p N (stepS N l s x).1.l (stepS N l s x).1.s ∧ Keep (Oth G w0) w wz)) := fun wz hz => by
      have e : stepS N l s x = (deleteS l s (nameS x.a), []) := by unfold stepS; rw [if_neg c0]; rw [if_pos c1]
      rw [e]
      exact ⟨rfl, hz.1.less hsub.out, hback.out hz.2⟩
    clear c1
    go_enter Tryz.func22, Tryz.ntmps22
    go_upto_region 1 with fail
    rw [← hw1'.out, ← hgb]
    clear hgb hw1 hw1' hlt h
    go_upto_region 5 with fail
    clear c0 d0 d1 y0
    have hN := name25 x.a w1
    have z : w1.cell? ⟨gb, 1, none⟩ = some (.int .i64 x.a) := ((hBk.out w1 (Keep.refl _ _)) 1 (by omega)).1
    go_wp2_with fail
    refine hN.mono ?_
    rintro e w2 ⟨rfl, k2⟩
    have hD := vf_delete H (hV.out w2 k2) (nameS x.a) (nameS_size _)
    clear hN z
    go_wp2_with fail
    refine hD.mono ?_
    rintro e w3 ⟨rfl, vc, k3⟩
    have hres := hend.out w3 ⟨vc, (k2.mono (fun _ _ e => e.elim)).trans k3⟩
    clear hD
    go_wp2_with fail
    go_ret2
    exact hres
  have d1 : (x.op == 1) = false := by simp [c1]
  by_cases c2 : x.op = 2
  · have d2 : (x.op == 2) = true := by simp [c2]
    have hend : RowKit.Hid (∀ wz, (Vf SV G1 w0 wz q p N (renameS l s (nameS x.a) (nameS x.b)).l (renameS l s (nameS x.a) (nameS x.b)).s ∧ Keep (Oth G1 w0) w1 wz) → (Ending.returned (.tuple #[.string ⟨#[]⟩, .int .i64 (renameS l s (nameS x.a) (nameS x.b)).e]) = .returned (.tuple #[.string (strOfNums (stepS N l s x).2), .int .i64 (stepS N l s x).1.e]) ∧ Vf SV G w0 wz q p N (stepS N l s x).1.l (stepS N l s x).1.s ∧ Keep (Oth G w0) w wz)) := fun wz hz => by
      have e : stepS N l s x = (renameS l s (nameS x.a) (nameS x.b), []) := by unfold stepS; rw [if_neg c0]; rw [if_neg c1]; rw [if_pos c2]
      rw [e]
      exact ⟨rfl, hz.1.less hsub.out, hback.out hz.2⟩
    clear c2
    go_enter Tryz.func22, Tryz.ntmps22
    go_upto_region 1 with fail
    rw [← hw1'.out, ← hgb]
    clear hgb hw1 hw1' hlt h
    go_upto_region 7 with fail
    clear c0 d0 c1 d1 d2 y0
    refine wp_region_noPanic ?_
    refine wp_region_held_drew (S := fun w' => Keep (Oth G1 w0) w1 w') (by kernel_rfl) ((Keep.refl _ _).drew) (fun hH0 => ?_)
    refine tk 0 hH0 ?_
    refine tk 1 hH0 ?_
    refine tk 2 hH0 ?_ (hy := Or.inl ⟨by rfl, by intro w' hSw; have hz := hBk.out w' hSw; clear hSw; have z : w'.cell? ⟨gb, 1, none⟩ = some (.int .i64 x.a) := (hz 1 (by omega)).1; clear hz; go_simp; try with_reducible rfl⟩)
    refine tk 4 hH0 ?_
    refine tk 5 hH0 ?_ (hy := Or.inl ⟨by rfl, by intro w' hSw; have hz := hBk.out w' hSw; clear hSw; have z : w'.cell? ⟨gb, 2, none⟩ = some (.int .i64 x.b) := (hz 2 (by omega)).1; clear hz; go_simp; try with_reducible rfl⟩)
    refine rd 3 (fun K hK => ?_)
    refine step_call_want (vs := #[.int .i64 x.a]) (R := fun v wz => v = .string (nameS x.a) ∧ Keep (fun _ => False) (w1.drew) wz) (by rfl) 47 _ _ rfl (by simp [Act.eval]) gcName ((name25 x.a (w1.drew)).mono (by rintro e wz ⟨rfl, k⟩; exact ⟨_, rfl, rfl, k⟩)) ?_
    rintro v wn1 ⟨rfl, kn1⟩
    refine hK.out _ _ ((((Keep.refl _ _).drew).trans (kn1.mono (fun _ _ e => e.elim)))) (fun hH1 => ?_)
    clear hK K
    simp only [Act.put, List.setIfInBounds_toArray, List.set_cons_zero, List.set_cons_succ]
    refine rd 6 (fun K hK => ?_)
    refine step_call_want (vs := #[.int .i64 x.b]) (R := fun v wz => v = .string (nameS x.b) ∧ Keep (fun _ => False) (wn1) wz) (by rfl) 47 _ _ rfl (by simp [Act.eval]) gcName ((name25 x.b (wn1)).mono (by rintro e wz ⟨rfl, k⟩; exact ⟨_, rfl, rfl, k⟩)) ?_
    rintro v wn2 ⟨rfl, kn2⟩
    refine hK.out _ _ (((((Keep.refl _ _).drew).trans (kn1.mono (fun _ _ e => e.elim))).trans (kn2.mono (fun _ _ e => e.elim)))) (fun hH2 => ?_)
    clear hK K
    simp only [Act.put, List.setIfInBounds_toArray, List.set_cons_zero, List.set_cons_succ]
    refine rd 7 (fun K hK => ?_)
    have V3 := hV.out (wn2) ((((Keep.refl _ _).drew).trans kn1).trans kn2)
    refine step_call_want (vs := #[Ptr q, .string (nameS x.a), .string (nameS x.b)]) (R := fun v wz => v = .int .i64 (renameS l s (nameS x.a) (nameS x.b)).e ∧ Vf SV G1 w0 wz q p N (renameS l s (nameS x.a) (nameS x.b)).l (renameS l s (nameS x.a) (nameS x.b)).s ∧ Keep (Oth G1 w0) (wn2) wz) (by rfl) 14 _ _ rfl (by simp [Act.eval]) gcRename ((vf_rename H V3 (nameS x.a) (nameS x.b) (nameS_size _) (nameS_size _)).mono (by rintro e wz ⟨rfl, v2, k⟩; exact ⟨_, rfl, rfl, v2, k⟩)) ?_
    rintro v wc ⟨rfl, vc, kc⟩
    refine hK.out _ _ ((((((Keep.refl _ _).drew).trans (kn1.mono (fun _ _ e => e.elim))).trans (kn2.mono (fun _ _ e => e.elim))).trans kc)) (fun hH3 => ?_)
    clear hK K
    simp only [Act.put, List.setIfInBounds_toArray, List.set_cons_zero, List.set_cons_succ]
    refine tk 8 hH3 ?_
    refine tk 9 hH3 ?_
    refine wpAnyH_done (by kernel_rfl) ?_ _
    refine NoPanic.normal ?_
    have hres := hend.out wc ⟨vc, (((((Keep.refl _ _).drew).trans (kn1.mono (fun _ _ e => e.elim))).trans (kn2.mono (fun _ _ e => e.elim))).trans kc)⟩
    go_wp2_with fail
    go_ret2
    exact hres
  have d2 : (x.op == 2) = false := by simp [c2]
  by_cases c3 : x.op = 3
  · have d3 : (x.op == 3) = true := by simp [c3]
    have hend : RowKit.Hid (∀ wz, (Vf SV G1 w0 wz q p N (cloneS N l s (nameS x.a) (nameS x.b)).l (cloneS N l s (nameS x.a) (nameS x.b)).s ∧ Keep (Oth G1 w0) w1 wz) → (Ending.returned (.tuple #[.string ⟨#[]⟩, .int .i64 (cloneS N l s (nameS x.a) (nameS x.b)).e]) = .returned (.tuple #[.string (strOfNums (stepS N l s x).2), .int .i64 (stepS N l s x).1.e]) ∧ Vf SV G w0 wz q p N (stepS N l s x).1.l (stepS N l s x).1.s ∧ Keep (Oth G w0) w wz)) := fun wz hz => by
      have e : stepS N l s x = (cloneS N l s (nameS x.a) (nameS x.b), []) := by unfold stepS; rw [if_neg c0]; rw [if_neg c1]; rw [if_neg c2]; rw [if_pos c3]
      rw [e]
      exact ⟨rfl, hz.1.less hsub.out, hback.out hz.2⟩
    clear c3
    go_enter Tryz.func22, Tryz.ntmps22
    go_upto_region 1 with fail
    rw [← hw1'.out, ← hgb]
    clear hgb hw1 hw1' hlt h
    go_upto_region 9 with fail
    clear c0 d0 c1 d1 c2 d2 d3 y0
    refine wp_region_noPanic ?_
    refine wp_region_held_drew (S := fun w' => Keep (Oth G1 w0) w1 w') (by kernel_rfl) ((Keep.refl _ _).drew) (fun hH0 => ?_)
    refine tk 0 hH0 ?_
    refine tk 1 hH0 ?_
    refine tk 2 hH0 ?_ (hy := Or.inl ⟨by rfl, by intro w' hSw; have hz := hBk.out w' hSw; clear hSw; have z : w'.cell? ⟨gb, 1, none⟩ = some (.int .i64 x.a) := (hz 1 (by omega)).1; clear hz; go_simp; try with_reducible rfl⟩)
    refine tk 4 hH0 ?_
    refine tk 5 hH0 ?_ (hy := Or.inl ⟨by rfl, by intro w' hSw; have hz := hBk.out w' hSw; clear hSw; have z : w'.cell? ⟨gb, 2, none⟩ = some (.int .i64 x.b) := (hz 2 (by omega)).1; clear hz; go_simp; try with_reducible rfl⟩)
    refine rd 3 (fun K hK => ?_)
    refine step_call_want (vs := #[.int .i64 x.a]) (R := fun v wz => v = .string (nameS x.a) ∧ Keep (fun _ => False) (w1.drew) wz) (by rfl) 47 _ _ rfl (by simp [Act.eval]) gcName ((name25 x.a (w1.drew)).mono (by rintro e wz ⟨rfl, k⟩; exact ⟨_, rfl, rfl, k⟩)) ?_
    rintro v wn1 ⟨rfl, kn1⟩
    refine hK.out _ _ ((((Keep.refl _ _).drew).trans (kn1.mono (fun _ _ e => e.elim)))) (fun hH1 => ?_)
    clear hK K
    simp only [Act.put, List.setIfInBounds_toArray, List.set_cons_zero, List.set_cons_succ]
    refine rd 6 (fun K hK => ?_)
    refine step_call_want (vs := #[.int .i64 x.b]) (R := fun v wz => v = .string (nameS x.b) ∧ Keep (fun _ => False) (wn1) wz) (by rfl) 47 _ _ rfl (by simp [Act.eval]) gcName ((name25 x.b (wn1)).mono (by rintro e wz ⟨rfl, k⟩; exact ⟨_, rfl, rfl, k⟩)) ?_
    rintro v wn2 ⟨rfl, kn2⟩
    refine hK.out _ _ (((((Keep.refl _ _).drew).trans (kn1.mono (fun _ _ e => e.elim))).trans (kn2.mono (fun _ _ e => e.elim)))) (fun hH2 => ?_)
    clear hK K
    simp only [Act.put, List.setIfInBounds_toArray, List.set_cons_zero, List.set_cons_succ]
    refine rd 7 (fun K hK => ?_)
    have V3 := hV.out (wn2) ((((Keep.refl _ _).drew).trans kn1).trans kn2)
    refine step_call_want (vs := #[Ptr q, .string (nameS x.a), .string (nameS x.b)]) (R := fun v wz => v = .int .i64 (cloneS N l s (nameS x.a) (nameS x.b)).e ∧ Vf SV G1 w0 wz q p N (cloneS N l s (nameS x.a) (nameS x.b)).l (cloneS N l s (nameS x.a) (nameS x.b)).s ∧ Keep (Oth G1 w0) (wn2) wz) (by rfl) 28 _ _ rfl (by simp [Act.eval]) gcClone ((vf_clone H V3 (nameS x.a) (nameS x.b) (nameS_size _) (nameS_size _)).mono (by rintro e wz ⟨rfl, v2, k⟩; exact ⟨_, rfl, rfl, v2, k⟩)) ?_
    rintro v wc ⟨rfl, vc, kc⟩
    refine hK.out _ _ ((((((Keep.refl _ _).drew).trans (kn1.mono (fun _ _ e => e.elim))).trans (kn2.mono (fun _ _ e => e.elim))).trans kc)) (fun hH3 => ?_)
    clear hK K
    simp only [Act.put, List.setIfInBounds_toArray, List.set_cons_zero, List.set_cons_succ]
    refine tk 8 hH3 ?_
    refine tk 9 hH3 ?_
    refine wpAnyH_done (by kernel_rfl) ?_ _
    refine NoPanic.normal ?_
    have hres := hend.out wc ⟨vc, (((((Keep.refl _ _).drew).trans (kn1.mono (fun _ _ e => e.elim))).trans (kn2.mono (fun _ _ e => e.elim))).trans kc)⟩
    go_wp2_with fail
    go_ret2
    exact hres
  have d3 : (x.op == 3) = false := by simp [c3]
  by_cases c4 : x.op = 4
  · have d4 : (x.op == 4) = true := by simp [c4]
    have hend : RowKit.Hid (∀ wz, (Vf SV G1 w0 wz q p N (writeS l s (nameS x.a) x.p x.n x.d).l (writeS l s (nameS x.a) x.p x.n x.d).s ∧ Keep (Oth G1 w0) w1 wz) → (Ending.returned (.tuple #[.string ⟨#[]⟩, .int .i64 (writeS l s (nameS x.a) x.p x.n x.d).e]) = .returned (.tuple #[.string (strOfNums (stepS N l s x).2), .int .i64 (stepS N l s x).1.e]) ∧ Vf SV G w0 wz q p N (stepS N l s x).1.l (stepS N l s x).1.s ∧ Keep (Oth G w0) w wz)) := fun wz hz => by
      have e : stepS N l s x = (writeS l s (nameS x.a) x.p x.n x.d, []) := by unfold stepS; rw [if_neg c0]; rw [if_neg c1]; rw [if_neg c2]; rw [if_neg c3]; rw [if_pos c4]
      rw [e]
      exact ⟨rfl, hz.1.less hsub.out, hback.out hz.2⟩
    clear c4
    go_enter Tryz.func22, Tryz.ntmps22
    go_upto_region 1 with fail
    rw [← hw1'.out, ← hgb]
    clear hgb hw1 hw1' hlt h
    go_upto_region 11 with fail
    clear c0 d0 c1 d1 c2 d2 c3 d3 d4 y0
    refine wp_region_noPanic ?_
    refine wp_region_held_drew (S := fun w' => Keep (Oth G1 w0) w1 w') (by kernel_rfl) ((Keep.refl _ _).drew) (fun hH0 => ?_)
    refine tk 0 hH0 ?_
    refine tk 1 hH0 ?_
    refine tk 2 hH0 ?_ (hy := Or.inl ⟨by rfl, by intro w' hSw; have hz := hBk.out w' hSw; clear hSw; have z : w'.cell? ⟨gb, 1, none⟩ = some (.int .i64 x.a) := (hz 1 (by omega)).1; clear hz; go_simp; try with_reducible rfl⟩)
    refine tk 4 hH0 ?_
    refine tk 5 hH0 ?_ (hy := Or.inl ⟨by rfl, by intro w' hSw; have hz := hBk.out w' hSw; clear hSw; have z : w'.cell? ⟨gb, 3, none⟩ = some (.int .i64 x.p) := (hz 3 (by omega)).1; clear hz; go_simp; try with_reducible rfl⟩)
    refine tk 6 hH0 ?_
    refine tk 7 hH0 ?_ (hy := Or.inl ⟨by rfl, by intro w' hSw; have hz := hBk.out w' hSw; clear hSw; have z : w'.cell? ⟨gb, 4, none⟩ = some (.int .i64 x.n) := (hz 4 (by omega)).1; clear hz; go_simp; try with_reducible rfl⟩)
    refine tk 8 hH0 ?_
    refine tk 9 hH0 ?_ (hy := Or.inl ⟨by rfl, by intro w' hSw; have hz := hBk.out w' hSw; clear hSw; have z : w'.cell? ⟨gb, 5, none⟩ = some (.string x.d) := (hz 5 (by omega)).1; clear hz; go_simp; try with_reducible rfl⟩)
    refine rd 3 (fun K hK => ?_)
    refine step_call_want (vs := #[.int .i64 x.a]) (R := fun v wz => v = .string (nameS x.a) ∧ Keep (fun _ => False) (w1.drew) wz) (by rfl) 47 _ _ rfl (by simp [Act.eval]) gcName ((name25 x.a (w1.drew)).mono (by rintro e wz ⟨rfl, k⟩; exact ⟨_, rfl, rfl, k⟩)) ?_
    rintro v wn1 ⟨rfl, kn1⟩
    refine hK.out _ _ ((((Keep.refl _ _).drew).trans (kn1.mono (fun _ _ e => e.elim)))) (fun hH1 => ?_)
    clear hK K
    simp only [Act.put, List.setIfInBounds_toArray, List.set_cons_zero, List.set_cons_succ]
    refine rd 10 (fun K hK => ?_)
    have V2 := hV.out (wn1) (((Keep.refl _ _).drew).trans kn1)
    refine step_call_want (vs := #[Ptr q, .string (nameS x.a), .int .i64 x.p, .int .i64 x.n, .string x.d]) (R := fun v wz => v = .int .i64 (writeS l s (nameS x.a) x.p x.n x.d).e ∧ Vf SV G1 w0 wz q p N (writeS l s (nameS x.a) x.p x.n x.d).l (writeS l s (nameS x.a) x.p x.n x.d).s ∧ Keep (Oth G1 w0) (wn1) wz) (by rfl) 27 _ _ rfl (by simp [Act.eval]) gcWrite ((vf_write H V2 (nameS x.a) x.p x.n x.d (nameS_size _) hx.p hx.n hx.d).mono (by rintro e wz ⟨rfl, v2, k⟩; exact ⟨_, rfl, rfl, v2, k⟩)) ?_
    rintro v wc ⟨rfl, vc, kc⟩
    refine hK.out _ _ (((((Keep.refl _ _).drew).trans (kn1.mono (fun _ _ e => e.elim))).trans kc)) (fun hH2 => ?_)
    clear hK K
    simp only [Act.put, List.setIfInBounds_toArray, List.set_cons_zero, List.set_cons_succ]
    refine tk 11 hH2 ?_
    refine tk 12 hH2 ?_
    refine wpAnyH_done (by kernel_rfl) ?_ _
    refine NoPanic.normal ?_
    have hres := hend.out wc ⟨vc, ((((Keep.refl _ _).drew).trans (kn1.mono (fun _ _ e => e.elim))).trans kc)⟩
    go_wp2_with fail
    go_ret2
    exact hres
  have d4 : (x.op == 4) = false := by simp [c4]
  by_cases c5 : x.op = 5
  · have d5 : (x.op == 5) = true := by simp [c5]
    have hend : RowKit.Hid (∀ wz, (Vf SV G1 w0 wz q p N l s ∧ Keep (Oth G1 w0) w1 wz) → (Ending.returned (.tuple #[.string (strOfNums (readS l s (nameS x.a) x.p x.n).1), .int .i64 (readS l s (nameS x.a) x.p x.n).2]) = .returned (.tuple #[.string (strOfNums (stepS N l s x).2), .int .i64 (stepS N l s x).1.e]) ∧ Vf SV G w0 wz q p N (stepS N l s x).1.l (stepS N l s x).1.s ∧ Keep (Oth G w0) w wz)) := fun wz hz => by
      have e : stepS N l s x = (⟨l, s, (readS l s (nameS x.a) x.p x.n).2⟩, (readS l s (nameS x.a) x.p x.n).1) := by unfold stepS; rw [if_neg c0]; rw [if_neg c1]; rw [if_neg c2]; rw [if_neg c3]; rw [if_neg c4]; rw [if_pos c5]
      rw [e]
      exact ⟨rfl, hz.1.less hsub.out, hback.out hz.2⟩
    clear c5
    go_enter Tryz.func22, Tryz.ntmps22
    go_upto_region 1 with fail
    rw [← hw1'.out, ← hgb]
    clear hgb hw1 hw1' hlt h
    go_upto_region 13 with fail
    clear c0 d0 c1 d1 c2 d2 c3 d3 c4 d4 d5 y0
    refine wp_region_noPanic ?_
    refine wp_region_held_drew (S := fun w' => Keep (Oth G1 w0) w1 w') (by kernel_rfl) ((Keep.refl _ _).drew) (fun hH0 => ?_)
    refine tk 0 hH0 ?_
    refine tk 1 hH0 ?_
    refine tk 2 hH0 ?_ (hy := Or.inl ⟨by rfl, by intro w' hSw; have hz := hBk.out w' hSw; clear hSw; have z : w'.cell? ⟨gb, 1, none⟩ = some (.int .i64 x.a) := (hz 1 (by omega)).1; clear hz; go_simp; try with_reducible rfl⟩)
    refine tk 4 hH0 ?_
    refine tk 5 hH0 ?_ (hy := Or.inl ⟨by rfl, by intro w' hSw; have hz := hBk.out w' hSw; clear hSw; have z : w'.cell? ⟨gb, 3, none⟩ = some (.int .i64 x.p) := (hz 3 (by omega)).1; clear hz; go_simp; try with_reducible rfl⟩)
    refine tk 6 hH0 ?_
    refine tk 7 hH0 ?_ (hy := Or.inl ⟨by rfl, by intro w' hSw; have hz := hBk.out w' hSw; clear hSw; have z : w'.cell? ⟨gb, 4, none⟩ = some (.int .i64 x.n) := (hz 4 (by omega)).1; clear hz; go_simp; try with_reducible rfl⟩)
    refine rd 3 (fun K hK => ?_)
    refine step_call_want (vs := #[.int .i64 x.a]) (R := fun v wz => v = .string (nameS x.a) ∧ Keep (fun _ => False) (w1.drew) wz) (by rfl) 47 _ _ rfl (by simp [Act.eval]) gcName ((name25 x.a (w1.drew)).mono (by rintro e wz ⟨rfl, k⟩; exact ⟨_, rfl, rfl, k⟩)) ?_
    rintro v wn1 ⟨rfl, kn1⟩
    refine hK.out _ _ ((((Keep.refl _ _).drew).trans (kn1.mono (fun _ _ e => e.elim)))) (fun hH1 => ?_)
    clear hK K
    simp only [Act.put, List.setIfInBounds_toArray, List.set_cons_zero, List.set_cons_succ]
    refine rd 8 (fun K hK => ?_)
    have V2 := hV.out (wn1) (((Keep.refl _ _).drew).trans kn1)
    refine step_call_want (vs := #[Ptr q, .string (nameS x.a), .int .i64 x.p, .int .i64 x.n]) (R := fun v wz => v = .tuple #[.string (strOfNums (readS l s (nameS x.a) x.p x.n).1), .int .i64 (readS l s (nameS x.a) x.p x.n).2] ∧ Vf SV G1 w0 wz q p N l s ∧ Keep (Oth G1 w0) (wn1) wz) (by rfl) 12 _ _ rfl (by simp [Act.eval]) gcRead ((vf_read H V2 (nameS x.a) x.p x.n (nameS_size _) hx.p hx.n).mono (by rintro e wz ⟨rfl, v2, k⟩; exact ⟨_, rfl, rfl, v2, k.mono (fun _ _ e => e.elim)⟩)) ?_
    rintro v wc ⟨rfl, vc, kc⟩
    refine hK.out _ _ (((((Keep.refl _ _).drew).trans (kn1.mono (fun _ _ e => e.elim))).trans kc)) (fun hH2 => ?_)
    clear hK K
    simp only [Act.put, List.setIfInBounds_toArray, List.set_cons_zero, List.set_cons_succ]
    refine tk 9 hH2 ?_
    refine tk 10 hH2 ?_
    refine tk 11 hH2 ?_
    refine tk 12 hH2 ?_
    refine wpAnyH_done (by kernel_rfl) ?_ _
    refine NoPanic.normal ?_
    have hres := hend.out wc ⟨vc, ((((Keep.refl _ _).drew).trans (kn1.mono (fun _ _ e => e.elim))).trans kc)⟩
    go_wp2_with fail
    go_ret2
    exact hres
  have d5 : (x.op == 5) = false := by simp [c5]
  have hend : RowKit.Hid (∀ wz, (Vf SV G1 w0 wz q p N l s ∧ Keep (Oth G1 w0) w1 wz) → (Ending.returned (.tuple #[.string ⟨#[]⟩, .int .i64 0]) = .returned (.tuple #[.string (strOfNums (stepS N l s x).2), .int .i64 (stepS N l s x).1.e]) ∧ Vf SV G w0 wz q p N (stepS N l s x).1.l (stepS N l s x).1.s ∧ Keep (Oth G w0) w wz)) := fun wz hz => by
    have e : stepS N l s x = (⟨l, s, 0⟩, []) := by unfold stepS; rw [if_neg c0]; rw [if_neg c1]; rw [if_neg c2]; rw [if_neg c3]; rw [if_neg c4]; rw [if_neg c5]
    rw [e]
    exact ⟨rfl, hz.1.less hsub.out, hback.out hz.2⟩
  have hres := hend.out w1 ⟨hV.out w1 (Keep.refl _ _), Keep.refl _ _⟩
  go_enter Tryz.func22, Tryz.ntmps22
  go_upto_region 1 with fail
  rw [← hw1'.out, ← hgb]
  clear hgb hw1 hw1' hlt h
  go_wp2_with fail
  go_ret2
  exact hres
end
end Tg
end Go.Proofs.YtjgnajopomadpaaGreat
