/-
  An entry's bytes, by the document.
-/
import Derived.Test.YtjgnajopomadpaaGreatSt
namespace Go.Proofs.YtjgnajopomadpaaGreat
open Go.ChangeShapes Go.WideShapes Go.ChangeAt Go.RowKit
namespace Tg
open Crc
theorem blk_alloc (w : World) (A : Array Value) (t : TypeId) (n : Nat) (f : Nat → Value) (h : ∀ i, i < n → A[i]? = some (f i)) : Blk (w.alloc (.cells A t)) w.heap.size n f := by
  intro i hi
  refine ⟨?_, ?_⟩
  · rw [World.cell?_alloc_mark]; exact h i hi
  · exact World.frozen?_alloc_new w A t i
theorem yields_add {ops : Array Oper} {S : World → Prop} {o : Oper} {a : Act} {A B : List Int} (hw : Region.wanted o (yielded ops a.tmps) = true) (x y : Operand) (hop : o.op = Op.binOp .add 9 x y 9) (hx : a.eval x = .string (strOfNums A)) (hy : a.eval y = .string (strOfNums B)) (hl : A.length + B.length ≤ 1000000) : YieldsIf Tryz.prog ops S o (.string (strOfNums (A ++ B))) a := by
  refine Or.inl ⟨hw, fun w hS => ?_⟩
  have h1 := strOfNums_size A
  have h2 := strOfNums_size B
  have hA : strOfNums A ++ strOfNums B = strOfNums (A ++ B) := str_app A B
  have h3 : ¬ 9223372036854775807 < A.length + B.length := by omega
  simp [execOp, hop, hx, hy]
  go_simp
set_option maxRecDepth 100000 in
theorem build1_ex {v : Int} (hv : 0 ≤ v ∧ v ≤ 255) (w : World) : ∃ w', (Instr.buildSlice 59 1 #[(0, .int .u8 v)]).run Tryz.prog w = .ok (.slice (some ⟨w.heap.size, 0, none⟩) 1 1) w' ∧ Row w' (some ⟨w.heap.size, 0, none⟩) 1 1 [v] ∧ Keep (fun _ => False) w w' :=
  ⟨w.alloc (.cells #[.int .u8 v] 5), by go_simp, row_new w [v] (0, 0) w.heap.size 1 rfl (by simp) (by omega) (fun n hn => by simp at hn; omega), (Keep.refl _ _).alloc _⟩
set_option maxRecDepth 100000 in
theorem build4_ex {l0 l1 l2 l3 : Int} (hb : B8 [l0, l1, l2, l3]) (w : World) : ∃ w', (Instr.buildSlice 59 4 #[(0, .int .u8 l0), (1, .int .u8 l1), (2, .int .u8 l2), (3, .int .u8 l3)]).run Tryz.prog w = .ok (.slice (some ⟨w.heap.size, 0, none⟩) 4 4) w' ∧ Row w' (some ⟨w.heap.size, 0, none⟩) 4 4 [l0, l1, l2, l3] ∧ Keep (fun _ => False) w w' :=
  ⟨w.alloc (.cells #[.int .u8 l0, .int .u8 l1, .int .u8 l2, .int .u8 l3] 5), by go_simp, row_new w [l0, l1, l2, l3] (0, 0) w.heap.size 4 rfl (by simp) (by omega) hb, (Keep.refl _ _).alloc _⟩
/-- An entry's first bytes, all but the sum. -/
def headE (nm : List Int) (f l : Int) : List Int := ((([86] ++ [(nm.length : Int) % 256]) ++ nm) ++ List.replicate (16 - nm.length) 0) ++ [f % 256, f / 256 % 256, l % 256, l / 256 % 256]
def bytesE (nm : List Int) (f l : Int) : List Int := (headE nm f l ++ le4 (val (more 0#32 (headE nm f l)))) ++ List.replicate 6 0
theorem headE_len {nm : List Int} (h : nm.length ≤ 16) (f l : Int) : (headE nm f l).length = 22 := by unfold headE; simp; omega
theorem headE_b8 {nm : List Int} (hb : B8 nm) (f l : Int) : B8 (headE nm f l) := by
  intro x hx
  unfold headE at hx
  simp only [List.mem_append, List.mem_replicate, List.mem_cons, List.not_mem_nil, or_false] at hx
  rcases hx with (((e | e) | e) | ⟨_, e⟩) | e | e | e | e
  · omega
  · omega
  · exact hb x e
  all_goals omega
theorem Row.txt {w : World} {a : Option Addr} {n cap : Nat} {l : List Int} (h : Row w a n cap l) {w' : World} (k : Keep (fun _ => False) w w') : (convert 59 9 (.slice a n cap)).run Tryz.prog w' = .ok (.string (strOfNums l)) w' := (h.keep k (fun _ _ _ e => e)).text
set_option maxRecDepth 100000 in
set_option maxHeartbeats 4000000 in
theorem bytes25 {nm : List Int} (hb : B8 nm) (hl : nm.length ≤ 16) (f l : Int) (at' : Int) (w : World) :
    Calls Tryz.prog 65 #[.agg #[.string (strOfNums nm), .int .i64 f, .int .i64 l, .int .i64 at']] w fun e w' => e = .returned (.string (strOfNums (bytesE nm f l))) ∧ Keep (fun _ => False) w w' := by
  obtain ⟨hd, hhd⟩ : ∃ hd, hd = headE nm f l := ⟨_, rfl⟩
  have hh : RowKit.Hid (hd = headE nm f l) := hhd
  have hlen : RowKit.Hid (nm.length ≤ 16) := hl
  obtain ⟨BY, hBY⟩ : ∃ BY, RowKit.Hid (BY = bytesE nm f l) := ⟨_, rfl⟩
  rw [← hBY.out]
  have hBY2 : RowKit.Hid (BY = (hd ++ le4 (val (more 0#32 hd))) ++ List.replicate 6 0) := by show _ = _; rw [hBY.out, hhd]; rfl
  have hd8 : RowKit.Hid (B8 hd ∧ hd.length = 22) := by show _ ∧ _; rw [hhd]; exact ⟨headE_b8 hb f l, headE_len hl f l⟩
  obtain ⟨nl, hnl0⟩ : ∃ nl, nl = (nm.length : Int) % 256 := ⟨_, rfl⟩
  obtain ⟨nr, hnr0⟩ : ∃ nr, nr = 16 - nm.length := ⟨_, rfl⟩
  obtain ⟨f0, hf0⟩ : ∃ x, x = f % 256 := ⟨_, rfl⟩
  obtain ⟨f1, hf1⟩ : ∃ x, x = f / 256 % 256 := ⟨_, rfl⟩
  obtain ⟨l0, hl0⟩ : ∃ x, x = l % 256 := ⟨_, rfl⟩
  obtain ⟨l1, hl1⟩ : ∃ x, x = l / 256 % 256 := ⟨_, rfl⟩
  have hnl : RowKit.Hid (0 ≤ nl ∧ nl ≤ 255) := by show _ ∧ _; omega
  have hnr : RowKit.Hid (nr ≤ 16384) := by show _ ≤ _; omega
  have hb4 : RowKit.Hid (B8 [f0, f1, l0, l1]) := by
    intro x hx
    simp at hx
    omega
  have hhd2 : RowKit.Hid (hd = (((([86] ++ [nl]) ++ nm) ++ List.replicate nr 0) ++ [f0, f1, l0, l1])) := by show _ = _; rw [hhd, hnl0, hnr0, hf0, hf1, hl0, hl1]; rfl
  have d0 : IntKind.u8.wrap (nm.length : Int) = nl := wrap8 hnl0
  have d1 : IntKind.u8.wrap f = f0 := wrap8 hf0
  have d2 : IntKind.u8.wrap (f / 256) = f1 := wrap8 hf1
  have d3 : IntKind.u8.wrap l = l0 := wrap8 hl0
  have d4 : IntKind.u8.wrap (l / 256) = l1 := wrap8 hl1
  have d5 : IntKind.i64.wrap (16 - (nm.length : Int)) = (nr : Int) := by rw [show 16 - (nm.length : Int) = (nr : Int) by omega]; exact wrapI (by omega) (by omega)
  have hsz : (strOfNums nm).size = nm.length := strOfNums_size nm
  have K1 : Keep (fun _ => False) w (w.alloc (.cells #[.string (strOfNums nm), .int .i64 f, .int .i64 l, .int .i64 at'] 91)) := (Keep.refl _ _).alloc _
  have L1 : Blk (w.alloc (.cells #[.string (strOfNums nm), .int .i64 f, .int .i64 l, .int .i64 at'] 91)) w.heap.size 4 (fun i => if i = 0 then .string (strOfNums nm) else if i = 1 then .int .i64 f else if i = 2 then .int .i64 l else .int .i64 at') := blk_alloc w _ 91 4 _ (by intro k hk; rcases (by omega : k = 0 ∨ k = 1 ∨ k = 2 ∨ k = 3) with rfl | rfl | rfl | rfl <;> rfl)
  clear hhd hnl0 hnr0 hf0 hf1 hl0 hl1 hb hl hh
  go_enter Tryz.func65, Tryz.ntmps65
  go_upto_region 1 with fail
  generalize w.alloc (.cells #[.string (strOfNums nm), .int .i64 f, .int .i64 l, .int .i64 at'] 91) = w1 at *
  generalize w.heap.size = gb at L1 ⊢
  have hbx : RowKit.Hid ((∀ w', Keep (fun _ => False) w1 w' → w'.cell? ⟨gb, 0, none⟩ = some (.string (strOfNums nm))) ∧ (∀ w', Keep (fun _ => False) w1 w' → w'.cell? ⟨gb, 1, none⟩ = some (.int .i64 f)) ∧ (∀ w', Keep (fun _ => False) w1 w' → w'.cell? ⟨gb, 2, none⟩ = some (.int .i64 l))) :=
    ⟨fun w' k => ((L1.keep k (fun e => e)) 0 (by omega)).1, fun w' k => ((L1.keep k (fun e => e)) 1 (by omega)).1, fun w' k => ((L1.keep k (fun e => e)) 2 (by omega)).1⟩
  have K1' : RowKit.Hid (Keep (fun _ => False) w w1) := K1
  clear L1 K1
  go_cut [3] from 4 to 36 (fun v wx => v = .string (strOfNums hd) ∧ Keep (fun _ => False) w1 wx)
  case first =>
    clear hBY hBY2 hd8 K1'
    refine wp_region_noPanic ?_
    refine wp_region_held_drew (S := fun w' => Keep (fun _ => False) w1 w') (by kernel_rfl) ((Keep.refl _ _).drew) (fun hH0 => ?_)
    refine tk 0 hH0 ?_
    refine tk 1 hH0 ?_ (hy := Or.inl ⟨by rfl, by intro w' hSw; have z0 := hbx.out.1 w' hSw; have z1 := hbx.out.2.1 w' hSw; have z2 := hbx.out.2.2 w' hSw; clear hSw; go_simp; try with_reducible rfl⟩)
    refine tk 2 hH0 ?_
    refine tk 3 hH0 ?_
    refine tk 7 hH0 ?_
    refine tk 8 hH0 ?_ (hy := Or.inl ⟨by rfl, by intro w' hSw; have z0 := hbx.out.1 w' hSw; have z1 := hbx.out.2.1 w' hSw; have z2 := hbx.out.2.2 w' hSw; clear hSw; go_simp; try with_reducible rfl⟩)
    refine tk 10 hH0 ?_
    refine tk 11 hH0 ?_ (hy := Or.inl ⟨by rfl, by intro w' hSw; have z0 := hbx.out.1 w' hSw; have z1 := hbx.out.2.1 w' hSw; have z2 := hbx.out.2.2 w' hSw; clear hSw; go_simp; try with_reducible rfl⟩)
    refine tk 12 hH0 ?_
    refine tk 13 hH0 ?_
    refine tk 16 hH0 ?_
    refine tk 17 hH0 ?_ (hy := Or.inl ⟨by rfl, by intro w' hSw; have z0 := hbx.out.1 w' hSw; have z1 := hbx.out.2.1 w' hSw; have z2 := hbx.out.2.2 w' hSw; clear hSw; go_simp; try with_reducible rfl⟩)
    refine tk 18 hH0 ?_
    refine tk 19 hH0 ?_
    refine tk 20 hH0 ?_ (hy := Or.inl ⟨by rfl, by intro w' hSw; have z0 := hbx.out.1 w' hSw; have z1 := hbx.out.2.1 w' hSw; have z2 := hbx.out.2.2 w' hSw; clear hSw; go_simp; try with_reducible rfl⟩)
    refine tk 21 hH0 ?_
    refine tk 22 hH0 ?_
    refine tk 23 hH0 ?_
    refine tk 24 hH0 ?_ (hy := Or.inl ⟨by rfl, by intro w' hSw; have z0 := hbx.out.1 w' hSw; have z1 := hbx.out.2.1 w' hSw; have z2 := hbx.out.2.2 w' hSw; clear hSw; go_simp; try with_reducible rfl⟩)
    refine tk 25 hH0 ?_
    refine tk 26 hH0 ?_
    refine tk 27 hH0 ?_ (hy := Or.inl ⟨by rfl, by intro w' hSw; have z0 := hbx.out.1 w' hSw; have z1 := hbx.out.2.1 w' hSw; have z2 := hbx.out.2.2 w' hSw; clear hSw; go_simp; try with_reducible rfl⟩)
    refine tk 28 hH0 ?_
    refine tk 29 hH0 ?_
    refine rds (ar 4 (fun K hK => ?_) (ar 14 (fun K hK => ?_) (ar 30 (fun K hK => ?_) AllReadyH.nil)))
    · obtain ⟨wA1, hA1, rA1, kA1⟩ := build1_ex hnl.out w1.drew
      refine step_build1 (by rfl) 59 _ rfl (by rfl) hA1 ?_
      refine hK.out _ _ ((((Keep.refl _ _).drew).trans kA1)) (fun _ => ?_)
      clear hK K
      simp only [Act.put, List.setIfInBounds_toArray, List.set_cons_zero, List.set_cons_succ]
      refine wpAnyH_strong (S' := fun w' => Keep (fun _ => False) wA1 w') (fun w' h => ((((Keep.refl _ _).drew).trans kA1)).trans h) ?_
      have hH1 : Keep (fun _ => False) wA1 wA1 := Keep.refl _ _
      refine tk 5 (v := .string (strOfNums [nl])) hH1 ?_ (hy := yields_conv (by rfl) 59 9 _ rfl (by rfl) (fun w' h => rA1.txt h))
      refine tk 6 (v := .string (strOfNums ([86] ++ [nl]))) hH1 ?_ (hy := yields_add (by rfl) _ _ rfl (by rfl) (by rfl) (by simp))
      refine tk 9 (v := .string (strOfNums (([86] ++ [nl]) ++ nm))) hH1 ?_ (hy := yields_add (by rfl) _ _ rfl (by rfl) (by rfl) (by simp; have := hlen.out; omega))
      refine rds (ar 14 (fun K hK => ?_) (ar 30 (fun K hK => ?_) AllReadyH.nil))
      · refine step_call_want (vs := #[.int .i64 (nr : Int)]) (R := fun v wz => v = .string (strOfNums (List.replicate nr 0)) ∧ Keep (fun _ => False) wA1 wz) (by rfl) 73 _ _ rfl (by simp [Act.eval]) gcall33 ((noughts25 hnr.out wA1).mono (by rintro e wz ⟨rfl, k⟩; exact ⟨_, rfl, rfl, k⟩)) ?_
        rintro v wB2 ⟨rfl, kB2⟩
        refine hK.out _ _ (kB2) (fun _ => ?_)
        clear hK K
        simp only [Act.put, List.setIfInBounds_toArray, List.set_cons_zero, List.set_cons_succ]
        refine wpAnyH_strong (S' := fun w' => Keep (fun _ => False) wB2 w') (fun w' h => (kB2).trans h) ?_
        have hH2 : Keep (fun _ => False) wB2 wB2 := Keep.refl _ _
        refine tk 15 (v := .string (strOfNums ((([86] ++ [nl]) ++ nm) ++ List.replicate nr 0))) hH2 ?_ (hy := yields_add (by rfl) _ _ rfl (by rfl) (by rfl) (by simp; have := hlen.out; have := hnr.out; omega))
        refine rd 30 (fun K hK => ?_)
        obtain ⟨wC3, hC3, rC3, kC3⟩ := build4_ex hb4.out wB2
        refine step_build4 (by rfl) 59 _ _ _ _ rfl (by rfl) (by rfl) (by rfl) (by rfl) hC3 ?_
        refine hK.out _ _ (kC3) (fun _ => ?_)
        clear hK K
        simp only [Act.put, List.setIfInBounds_toArray, List.set_cons_zero, List.set_cons_succ]
        refine wpAnyH_strong (S' := fun w' => Keep (fun _ => False) wC3 w') (fun w' h => (kC3).trans h) ?_
        have hH3 : Keep (fun _ => False) wC3 wC3 := Keep.refl _ _
        refine tk 31 (v := .string (strOfNums [f0, f1, l0, l1])) hH3 ?_ (hy := yields_conv (by rfl) 59 9 _ rfl (by rfl) (fun w' h => rC3.txt h))
        refine tk 32 (v := .string (strOfNums hd)) hH3 ?_ (hy := by rw [hhd2.out]; exact yields_add (by rfl) _ _ rfl (by rfl) (by rfl) (by simp; have := hlen.out; have := hnr.out; omega))
        refine tk 33 hH3 ?_
        refine wpAnyH_done (by kernel_rfl) ?_ _
        refine NoPanic.normal ?_
        go_wp2_with fail
        go_meet
        exact ⟨rfl, (((((Keep.refl _ _).drew).trans kA1).trans kB2).trans kC3)⟩
      · obtain ⟨wC4, hC4, rC4, kC4⟩ := build4_ex hb4.out wA1
        refine step_build4 (by rfl) 59 _ _ _ _ rfl (by rfl) (by rfl) (by rfl) (by rfl) hC4 ?_
        refine hK.out _ _ (kC4) (fun _ => ?_)
        clear hK K
        simp only [Act.put, List.setIfInBounds_toArray, List.set_cons_zero, List.set_cons_succ]
        refine wpAnyH_strong (S' := fun w' => Keep (fun _ => False) wC4 w') (fun w' h => (kC4).trans h) ?_
        have hH4 : Keep (fun _ => False) wC4 wC4 := Keep.refl _ _
        refine tk 31 (v := .string (strOfNums [f0, f1, l0, l1])) hH4 ?_ (hy := yields_conv (by rfl) 59 9 _ rfl (by rfl) (fun w' h => rC4.txt h))
        refine rd 14 (fun K hK => ?_)
        refine step_call_want (vs := #[.int .i64 (nr : Int)]) (R := fun v wz => v = .string (strOfNums (List.replicate nr 0)) ∧ Keep (fun _ => False) wC4 wz) (by rfl) 73 _ _ rfl (by simp [Act.eval]) gcall33 ((noughts25 hnr.out wC4).mono (by rintro e wz ⟨rfl, k⟩; exact ⟨_, rfl, rfl, k⟩)) ?_
        rintro v wB5 ⟨rfl, kB5⟩
        refine hK.out _ _ (kB5) (fun _ => ?_)
        clear hK K
        simp only [Act.put, List.setIfInBounds_toArray, List.set_cons_zero, List.set_cons_succ]
        refine wpAnyH_strong (S' := fun w' => Keep (fun _ => False) wB5 w') (fun w' h => (kB5).trans h) ?_
        have hH5 : Keep (fun _ => False) wB5 wB5 := Keep.refl _ _
        refine tk 15 (v := .string (strOfNums ((([86] ++ [nl]) ++ nm) ++ List.replicate nr 0))) hH5 ?_ (hy := yields_add (by rfl) _ _ rfl (by rfl) (by rfl) (by simp; have := hlen.out; have := hnr.out; omega))
        refine tk 32 (v := .string (strOfNums hd)) hH5 ?_ (hy := by rw [hhd2.out]; exact yields_add (by rfl) _ _ rfl (by rfl) (by rfl) (by simp; have := hlen.out; have := hnr.out; omega))
        refine tk 33 hH5 ?_
        refine wpAnyH_done (by kernel_rfl) ?_ _
        refine NoPanic.normal ?_
        go_wp2_with fail
        go_meet
        exact ⟨rfl, (((((Keep.refl _ _).drew).trans kA1).trans kC4).trans kB5)⟩
    · refine step_call_want (vs := #[.int .i64 (nr : Int)]) (R := fun v wz => v = .string (strOfNums (List.replicate nr 0)) ∧ Keep (fun _ => False) w1.drew wz) (by rfl) 73 _ _ rfl (by simp [Act.eval]) gcall33 ((noughts25 hnr.out w1.drew).mono (by rintro e wz ⟨rfl, k⟩; exact ⟨_, rfl, rfl, k⟩)) ?_
      rintro v wB6 ⟨rfl, kB6⟩
      refine hK.out _ _ ((((Keep.refl _ _).drew).trans kB6)) (fun _ => ?_)
      clear hK K
      simp only [Act.put, List.setIfInBounds_toArray, List.set_cons_zero, List.set_cons_succ]
      refine wpAnyH_strong (S' := fun w' => Keep (fun _ => False) wB6 w') (fun w' h => ((((Keep.refl _ _).drew).trans kB6)).trans h) ?_
      have hH6 : Keep (fun _ => False) wB6 wB6 := Keep.refl _ _
      refine rds (ar 4 (fun K hK => ?_) (ar 30 (fun K hK => ?_) AllReadyH.nil))
      · obtain ⟨wA7, hA7, rA7, kA7⟩ := build1_ex hnl.out wB6
        refine step_build1 (by rfl) 59 _ rfl (by rfl) hA7 ?_
        refine hK.out _ _ (kA7) (fun _ => ?_)
        clear hK K
        simp only [Act.put, List.setIfInBounds_toArray, List.set_cons_zero, List.set_cons_succ]
        refine wpAnyH_strong (S' := fun w' => Keep (fun _ => False) wA7 w') (fun w' h => (kA7).trans h) ?_
        have hH7 : Keep (fun _ => False) wA7 wA7 := Keep.refl _ _
        refine tk 5 (v := .string (strOfNums [nl])) hH7 ?_ (hy := yields_conv (by rfl) 59 9 _ rfl (by rfl) (fun w' h => rA7.txt h))
        refine tk 6 (v := .string (strOfNums ([86] ++ [nl]))) hH7 ?_ (hy := yields_add (by rfl) _ _ rfl (by rfl) (by rfl) (by simp))
        refine tk 9 (v := .string (strOfNums (([86] ++ [nl]) ++ nm))) hH7 ?_ (hy := yields_add (by rfl) _ _ rfl (by rfl) (by rfl) (by simp; have := hlen.out; omega))
        refine tk 15 (v := .string (strOfNums ((([86] ++ [nl]) ++ nm) ++ List.replicate nr 0))) hH7 ?_ (hy := yields_add (by rfl) _ _ rfl (by rfl) (by rfl) (by simp; have := hlen.out; have := hnr.out; omega))
        refine rd 30 (fun K hK => ?_)
        obtain ⟨wC8, hC8, rC8, kC8⟩ := build4_ex hb4.out wA7
        refine step_build4 (by rfl) 59 _ _ _ _ rfl (by rfl) (by rfl) (by rfl) (by rfl) hC8 ?_
        refine hK.out _ _ (kC8) (fun _ => ?_)
        clear hK K
        simp only [Act.put, List.setIfInBounds_toArray, List.set_cons_zero, List.set_cons_succ]
        refine wpAnyH_strong (S' := fun w' => Keep (fun _ => False) wC8 w') (fun w' h => (kC8).trans h) ?_
        have hH8 : Keep (fun _ => False) wC8 wC8 := Keep.refl _ _
        refine tk 31 (v := .string (strOfNums [f0, f1, l0, l1])) hH8 ?_ (hy := yields_conv (by rfl) 59 9 _ rfl (by rfl) (fun w' h => rC8.txt h))
        refine tk 32 (v := .string (strOfNums hd)) hH8 ?_ (hy := by rw [hhd2.out]; exact yields_add (by rfl) _ _ rfl (by rfl) (by rfl) (by simp; have := hlen.out; have := hnr.out; omega))
        refine tk 33 hH8 ?_
        refine wpAnyH_done (by kernel_rfl) ?_ _
        refine NoPanic.normal ?_
        go_wp2_with fail
        go_meet
        exact ⟨rfl, (((((Keep.refl _ _).drew).trans kB6).trans kA7).trans kC8)⟩
      · obtain ⟨wC9, hC9, rC9, kC9⟩ := build4_ex hb4.out wB6
        refine step_build4 (by rfl) 59 _ _ _ _ rfl (by rfl) (by rfl) (by rfl) (by rfl) hC9 ?_
        refine hK.out _ _ (kC9) (fun _ => ?_)
        clear hK K
        simp only [Act.put, List.setIfInBounds_toArray, List.set_cons_zero, List.set_cons_succ]
        refine wpAnyH_strong (S' := fun w' => Keep (fun _ => False) wC9 w') (fun w' h => (kC9).trans h) ?_
        have hH9 : Keep (fun _ => False) wC9 wC9 := Keep.refl _ _
        refine tk 31 (v := .string (strOfNums [f0, f1, l0, l1])) hH9 ?_ (hy := yields_conv (by rfl) 59 9 _ rfl (by rfl) (fun w' h => rC9.txt h))
        refine rd 4 (fun K hK => ?_)
        obtain ⟨wA10, hA10, rA10, kA10⟩ := build1_ex hnl.out wC9
        refine step_build1 (by rfl) 59 _ rfl (by rfl) hA10 ?_
        refine hK.out _ _ (kA10) (fun _ => ?_)
        clear hK K
        simp only [Act.put, List.setIfInBounds_toArray, List.set_cons_zero, List.set_cons_succ]
        refine wpAnyH_strong (S' := fun w' => Keep (fun _ => False) wA10 w') (fun w' h => (kA10).trans h) ?_
        have hH10 : Keep (fun _ => False) wA10 wA10 := Keep.refl _ _
        refine tk 5 (v := .string (strOfNums [nl])) hH10 ?_ (hy := yields_conv (by rfl) 59 9 _ rfl (by rfl) (fun w' h => rA10.txt h))
        refine tk 6 (v := .string (strOfNums ([86] ++ [nl]))) hH10 ?_ (hy := yields_add (by rfl) _ _ rfl (by rfl) (by rfl) (by simp))
        refine tk 9 (v := .string (strOfNums (([86] ++ [nl]) ++ nm))) hH10 ?_ (hy := yields_add (by rfl) _ _ rfl (by rfl) (by rfl) (by simp; have := hlen.out; omega))
        refine tk 15 (v := .string (strOfNums ((([86] ++ [nl]) ++ nm) ++ List.replicate nr 0))) hH10 ?_ (hy := yields_add (by rfl) _ _ rfl (by rfl) (by rfl) (by simp; have := hlen.out; have := hnr.out; omega))
        refine tk 32 (v := .string (strOfNums hd)) hH10 ?_ (hy := by rw [hhd2.out]; exact yields_add (by rfl) _ _ rfl (by rfl) (by rfl) (by simp; have := hlen.out; have := hnr.out; omega))
        refine tk 33 hH10 ?_
        refine wpAnyH_done (by kernel_rfl) ?_ _
        refine NoPanic.normal ?_
        go_wp2_with fail
        go_meet
        exact ⟨rfl, (((((Keep.refl _ _).drew).trans kB6).trans kC9).trans kA10)⟩
    · obtain ⟨wC11, hC11, rC11, kC11⟩ := build4_ex hb4.out w1.drew
      refine step_build4 (by rfl) 59 _ _ _ _ rfl (by rfl) (by rfl) (by rfl) (by rfl) hC11 ?_
      refine hK.out _ _ ((((Keep.refl _ _).drew).trans kC11)) (fun _ => ?_)
      clear hK K
      simp only [Act.put, List.setIfInBounds_toArray, List.set_cons_zero, List.set_cons_succ]
      refine wpAnyH_strong (S' := fun w' => Keep (fun _ => False) wC11 w') (fun w' h => ((((Keep.refl _ _).drew).trans kC11)).trans h) ?_
      have hH11 : Keep (fun _ => False) wC11 wC11 := Keep.refl _ _
      refine tk 31 (v := .string (strOfNums [f0, f1, l0, l1])) hH11 ?_ (hy := yields_conv (by rfl) 59 9 _ rfl (by rfl) (fun w' h => rC11.txt h))
      refine rds (ar 4 (fun K hK => ?_) (ar 14 (fun K hK => ?_) AllReadyH.nil))
      · obtain ⟨wA12, hA12, rA12, kA12⟩ := build1_ex hnl.out wC11
        refine step_build1 (by rfl) 59 _ rfl (by rfl) hA12 ?_
        refine hK.out _ _ (kA12) (fun _ => ?_)
        clear hK K
        simp only [Act.put, List.setIfInBounds_toArray, List.set_cons_zero, List.set_cons_succ]
        refine wpAnyH_strong (S' := fun w' => Keep (fun _ => False) wA12 w') (fun w' h => (kA12).trans h) ?_
        have hH12 : Keep (fun _ => False) wA12 wA12 := Keep.refl _ _
        refine tk 5 (v := .string (strOfNums [nl])) hH12 ?_ (hy := yields_conv (by rfl) 59 9 _ rfl (by rfl) (fun w' h => rA12.txt h))
        refine tk 6 (v := .string (strOfNums ([86] ++ [nl]))) hH12 ?_ (hy := yields_add (by rfl) _ _ rfl (by rfl) (by rfl) (by simp))
        refine tk 9 (v := .string (strOfNums (([86] ++ [nl]) ++ nm))) hH12 ?_ (hy := yields_add (by rfl) _ _ rfl (by rfl) (by rfl) (by simp; have := hlen.out; omega))
        refine rd 14 (fun K hK => ?_)
        refine step_call_want (vs := #[.int .i64 (nr : Int)]) (R := fun v wz => v = .string (strOfNums (List.replicate nr 0)) ∧ Keep (fun _ => False) wA12 wz) (by rfl) 73 _ _ rfl (by simp [Act.eval]) gcall33 ((noughts25 hnr.out wA12).mono (by rintro e wz ⟨rfl, k⟩; exact ⟨_, rfl, rfl, k⟩)) ?_
        rintro v wB13 ⟨rfl, kB13⟩
        refine hK.out _ _ (kB13) (fun _ => ?_)
        clear hK K
        simp only [Act.put, List.setIfInBounds_toArray, List.set_cons_zero, List.set_cons_succ]
        refine wpAnyH_strong (S' := fun w' => Keep (fun _ => False) wB13 w') (fun w' h => (kB13).trans h) ?_
        have hH13 : Keep (fun _ => False) wB13 wB13 := Keep.refl _ _
        refine tk 15 (v := .string (strOfNums ((([86] ++ [nl]) ++ nm) ++ List.replicate nr 0))) hH13 ?_ (hy := yields_add (by rfl) _ _ rfl (by rfl) (by rfl) (by simp; have := hlen.out; have := hnr.out; omega))
        refine tk 32 (v := .string (strOfNums hd)) hH13 ?_ (hy := by rw [hhd2.out]; exact yields_add (by rfl) _ _ rfl (by rfl) (by rfl) (by simp; have := hlen.out; have := hnr.out; omega))
        refine tk 33 hH13 ?_
        refine wpAnyH_done (by kernel_rfl) ?_ _
        refine NoPanic.normal ?_
        go_wp2_with fail
        go_meet
        exact ⟨rfl, (((((Keep.refl _ _).drew).trans kC11).trans kA12).trans kB13)⟩
      · refine step_call_want (vs := #[.int .i64 (nr : Int)]) (R := fun v wz => v = .string (strOfNums (List.replicate nr 0)) ∧ Keep (fun _ => False) wC11 wz) (by rfl) 73 _ _ rfl (by simp [Act.eval]) gcall33 ((noughts25 hnr.out wC11).mono (by rintro e wz ⟨rfl, k⟩; exact ⟨_, rfl, rfl, k⟩)) ?_
        rintro v wB14 ⟨rfl, kB14⟩
        refine hK.out _ _ (kB14) (fun _ => ?_)
        clear hK K
        simp only [Act.put, List.setIfInBounds_toArray, List.set_cons_zero, List.set_cons_succ]
        refine wpAnyH_strong (S' := fun w' => Keep (fun _ => False) wB14 w') (fun w' h => (kB14).trans h) ?_
        have hH14 : Keep (fun _ => False) wB14 wB14 := Keep.refl _ _
        refine rd 4 (fun K hK => ?_)
        obtain ⟨wA15, hA15, rA15, kA15⟩ := build1_ex hnl.out wB14
        refine step_build1 (by rfl) 59 _ rfl (by rfl) hA15 ?_
        refine hK.out _ _ (kA15) (fun _ => ?_)
        clear hK K
        simp only [Act.put, List.setIfInBounds_toArray, List.set_cons_zero, List.set_cons_succ]
        refine wpAnyH_strong (S' := fun w' => Keep (fun _ => False) wA15 w') (fun w' h => (kA15).trans h) ?_
        have hH15 : Keep (fun _ => False) wA15 wA15 := Keep.refl _ _
        refine tk 5 (v := .string (strOfNums [nl])) hH15 ?_ (hy := yields_conv (by rfl) 59 9 _ rfl (by rfl) (fun w' h => rA15.txt h))
        refine tk 6 (v := .string (strOfNums ([86] ++ [nl]))) hH15 ?_ (hy := yields_add (by rfl) _ _ rfl (by rfl) (by rfl) (by simp))
        refine tk 9 (v := .string (strOfNums (([86] ++ [nl]) ++ nm))) hH15 ?_ (hy := yields_add (by rfl) _ _ rfl (by rfl) (by rfl) (by simp; have := hlen.out; omega))
        refine tk 15 (v := .string (strOfNums ((([86] ++ [nl]) ++ nm) ++ List.replicate nr 0))) hH15 ?_ (hy := yields_add (by rfl) _ _ rfl (by rfl) (by rfl) (by simp; have := hlen.out; have := hnr.out; omega))
        refine tk 32 (v := .string (strOfNums hd)) hH15 ?_ (hy := by rw [hhd2.out]; exact yields_add (by rfl) _ _ rfl (by rfl) (by rfl) (by simp; have := hlen.out; have := hnr.out; omega))
        refine tk 33 hH15 ?_
        refine wpAnyH_done (by kernel_rfl) ?_ _
        refine NoPanic.normal ?_
        go_wp2_with fail
        go_meet
        exact ⟨rfl, (((((Keep.refl _ _).drew).trans kC11).trans kB14).trans kA15)⟩
  case rest =>
    obtain ⟨rfl, k2⟩ := hcut
    clear hhd2 hbx d0 d1 d2 d3 d4 d5 hsz hnl hnr hb4 hlen
    generalize wc = w3 at *
    obtain ⟨cp, w4, hcv, hrow, hbel, -, -⟩ := text_row w3 hd hd8.out.1 (by have := hd8.out.2; omega)
    have k4 : Keep (fun _ => False) w3 w4 := Keep.of_below hbel
    have HS := refsum_any (some ⟨w3.heap.size, 0, none⟩) hd.length cp hd w4 hrow
    have HN := number25 (val (more 0#32 hd)) w4
    obtain ⟨sm, hsm⟩ : ∃ sm, RowKit.Hid (sm = val (more 0#32 hd)) := ⟨_, rfl⟩
    rw [← hsm.out] at HS HN
    obtain ⟨h4, hh4⟩ : ∃ h4, RowKit.Hid (h4 = le4 sm) := ⟨_, rfl⟩
    rw [← hh4.out] at HN
    have q1 := strOfNums_size hd
    have q2 := strOfNums_size h4
    have q3 := strOfNums_size (hd ++ h4)
    have q4 := strOfNums_size (List.replicate 6 (0 : Int))
    have e1 : strOfNums hd ++ strOfNums h4 = strOfNums (hd ++ h4) := str_app _ _
    have e2 : strOfNums (hd ++ h4) ++ strOfNums (List.replicate 6 (0 : Int)) = strOfNums BY := by rw [str_app, hBY2.out, hh4.out, hsm.out]
    have n1 : hd.length = 22 := hd8.out.2
    have n2 : h4.length = 4 := by rw [hh4.out]; rfl
    rw [List.length_append] at q3
    rw [List.length_replicate] at q4
    rw [n1] at q1 q3 HS
    rw [n2] at q2 q3
    have hkk : RowKit.Hid (Keep (fun _ => False) w w4) := (K1'.out.trans k2).trans k4
    have hcv2 : (convert 9 59 (.string (strOfNums hd))).run Tryz.prog w3 = .ok (.slice (some ⟨w3.heap.size, 0, none⟩) 22 cp) w4 := by rw [hcv, n1]
    have H6 := fun wx => noughts25 (n := 6) (by omega) wx
    clear hrow hbel k4 k2 K1' hcv n1 n2 hd8 hBY2 hsm hh4
    obtain ⟨SB, hSB⟩ : ∃ x, RowKit.Hid (x = strOfNums BY) := ⟨_, rfl⟩
    rw [← hSB.out] at e2
    generalize strOfNums (hd ++ h4) = SC at *
    generalize strOfNums (List.replicate 6 (0 : Int)) = S6 at *
    generalize strOfNums hd = SA at *
    generalize strOfNums h4 = S4 at *
    generalize w3.heap.size = g3 at *
    go_wp2_with fail
    refine HS.mono ?_
    rintro e w5 ⟨rfl, rfl⟩
    clear HS
    go_wp2_with fail
    refine HN.mono ?_
    rintro e w6 ⟨rfl, k6⟩
    have H6 : Calls Tryz.prog 73 #[.int .i64 6] w6 fun e w' => e = .returned (.string S6) ∧ Keep (fun _ => False) w6 w' := H6 w6
    have hkk2 : RowKit.Hid (Keep (fun _ => False) w w6) := hkk.out.trans k6
    clear HN k6 hkk
    go_wp2_with fail
    refine H6.mono ?_
    rintro e w7 ⟨rfl, k7⟩
    have hkk3 : RowKit.Hid (Keep (fun _ => False) w w7) := hkk2.out.trans k7
    clear H6 k7
    go_wp2_with fail
    go_ret
    exact ⟨by show Ending.returned (.string SB) = _; rw [hSB.out], hkk3.out⟩
end Tg
end Go.Proofs.YtjgnajopomadpaaGreat
