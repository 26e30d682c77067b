/-
  The document's own entry.
-/
import Derived.Test.YtjgnajopomadpaaGreatPd
namespace Go.Proofs.YtjgnajopomadpaaGreat
open Go.ChangeShapes Go.WideShapes Go.ChangeAt Go.RowKit
namespace Tg
open Qm
set_option maxRecDepth 100000 in
theorem str_cut {s : ByteArray} {a b : Nat} (h : a ≤ b) (h2 : b ≤ s.size) (w : World) : (Instr.slice 9 (.string s) (some (.int .i64 (a : Int))) (some (.int .i64 (b : Int))) none).run Tryz.prog w = .ok (.string (s.extract a b)) w := by
  go_simp
theorem ba_eq (x y : ByteArray) : (x.toList == y.toList) = decide (x = y) := by
  rw [ByteArray.toList_eq, ByteArray.toList_eq, Bool.eq_iff_iff, beq_iff_eq, decide_eq_true_eq]
  exact ⟨fun h => ByteArray.ext (Array.toList_inj.1 h), fun h => by rw [h]⟩
theorem wpList_store_run {P : Program} {w : World} {ops : Array Oper} {rest : List Oper} {o : Oper} {a : Act} {Q : Exit → Act → World → Prop}
    (hg : o.guard = none) (t : TypeId) (x y : Operand) (hop : o.op = Op.store t x y) {v1 v2 : Value} {w' : World} (hx : a.eval x = v1) (hy : a.eval y = v2) (hrun : (Instr.storeAt t v1 v2).run P w = .ok () w')
    (hK : wpList P ops Q rest (a.put o.dst undef) w') : wpList P ops Q (o :: rest) a w := by
  refine BigFrame.wpList_want (by simp [Region.wanted, hg]) fun K hK' => ?_
  unfold Oper.wp
  simp [execOp, hop, hx, hy, hrun, Result.andThen]
  exact hK' _ _ hK
theorem wpList_load_run {P : Program} {w : World} {ops : Array Oper} {rest : List Oper} {o : Oper} {a : Act} {Q : Exit → Act → World → Prop}
    (hw : Region.wanted o (yielded ops a.tmps) = true) (t : TypeId) (x : Operand) (hop : o.op = Op.load t x) {v1 v' : Value} {w' : World} (hx : a.eval x = v1) (hrun : (Instr.loadAt t v1).run P w = .ok v' w')
    (hK : wpList P ops Q rest (a.put o.dst v') w') : wpList P ops Q (o :: rest) a w := by
  refine BigFrame.wpList_want hw fun K hK' => ?_
  unfold Oper.wp
  simp [execOp, hop, hx, hrun, Result.andThen]
  exact hK' _ _ hK
theorem entE_i (b : List Int) (i : Int) : (entE b i).nm = (entE b 0).nm ∧ (entE b i).f = (entE b 0).f ∧ (entE b i).n = (entE b 0).n := ⟨rfl, rfl, rfl⟩
set_option maxRecDepth 100000 in
set_option maxHeartbeats 4000000 in
theorem entry25 {l : List Int} (hl8 : B8 l) {N : Nat} (hl : l.length = N * 32) (hN : N ≤ 512) {i : Nat} (hi : i < N) (w : World) :
    Calls Tryz.prog 46 #[.string (strOfNums l), .int .i64 (i : Int)] w fun e w' => e = .returned (enV (entL N l i)) ∧ Keep (fun _ => False) w w' := by
  obtain ⟨b, hb⟩ : ∃ b, b = rdL l i 1 := ⟨_, rfl⟩
  obtain ⟨V, hV⟩ : ∃ V, RowKit.Hid (V = entL N l i) := ⟨_, rfl⟩
  have hV2 : RowKit.Hid (V = if entOk N b then some (entE b i) else none) := by show _ = _; rw [hV.out, hb]; rfl
  rw [← hV.out]
  have hb8 : B8 b := by rw [hb]; exact rdL_b8 hl8
  have hbl : b.length = 32 := by rw [hb]; exact rdL_len (by omega)
  have hz : (strOfNums l).size = N * 32 := by rw [strOfNums_size, hl]
  have hzb : (strOfNums b).size = 32 := by rw [strOfNums_size, hbl]
  have hcap := fun w => cap_any hz hN w
  obtain ⟨T, hT⟩ : ∃ T, T = strOfNums l := ⟨_, rfl⟩
  obtain ⟨S, hS⟩ : ∃ S, S = strOfNums b := ⟨_, rfl⟩
  have hzS : S.size = 32 := by rw [hS]; exact hzb
  rw [← hT] at hz hcap ⊢
  have q1 : IntKind.i64.wrap ((i : Int) * 32) = ((i * 32 : Nat) : Int) := by rw [show (i : Int) * 32 = ((i * 32 : Nat) : Int) by omega]; exact wrapI (by omega) (by omega)
  have q2 : IntKind.i64.wrap ((i : Int) + 1) = ((i + 1 : Nat) : Int) := by rw [show (i : Int) + 1 = ((i + 1 : Nat) : Int) by omega]; exact wrapI (by omega) (by omega)
  have q3 : IntKind.i64.wrap (((i + 1 : Nat) : Int) * 32) = (((i + 1) * 32 : Nat) : Int) := by rw [show ((i + 1 : Nat) : Int) * 32 = (((i + 1) * 32 : Nat) : Int) by omega]; exact wrapI (by omega) (by omega)
  have d1 : i * 32 ≤ (i + 1) * 32 := by omega
  have d2 : (i + 1) * 32 ≤ T.size := by omega
  have hE : T.extract (i * 32) ((i + 1) * 32) = S := by rw [hT, hS, str_extract, hb]; rfl
  have hg := fun k => getD_bound hb8 k
  obtain ⟨c1, hc1⟩ : ∃ c : Nat, b.getD 1 0 = (c : Int) := ⟨(b.getD 1 0).toNat, by have := (hg 1).1; omega⟩
  obtain ⟨c18, hc18⟩ : ∃ c : Nat, b.getD 18 0 = (c : Int) := ⟨(b.getD 18 0).toNat, by have := (hg 18).1; omega⟩
  obtain ⟨c19, hc19⟩ : ∃ c : Nat, b.getD 19 0 = (c : Int) := ⟨(b.getD 19 0).toNat, by have := (hg 19).1; omega⟩
  obtain ⟨c20, hc20⟩ : ∃ c : Nat, b.getD 20 0 = (c : Int) := ⟨(b.getD 20 0).toNat, by have := (hg 20).1; omega⟩
  obtain ⟨c21, hc21⟩ : ∃ c : Nat, b.getD 21 0 = (c : Int) := ⟨(b.getD 21 0).toNat, by have := (hg 21).1; omega⟩
  have b1 := hg 1; have b18 := hg 18; have b19 := hg 19; have b20 := hg 20; have b21 := hg 21
  rw [hc1] at b1; rw [hc18] at b18; rw [hc19] at b19; rw [hc20] at b20; rw [hc21] at b21
  have s1 : (S[1]'(by omega)).toNat = c1 := by subst hS; have := str_at hb8 (k := 1) (by omega); rw [hc1] at this; omega
  have s18 : (S[18]'(by omega)).toNat = c18 := by subst hS; have := str_at hb8 (k := 18) (by omega); rw [hc18] at this; omega
  have s19 : (S[19]'(by omega)).toNat = c19 := by subst hS; have := str_at hb8 (k := 19) (by omega); rw [hc19] at this; omega
  have s20 : (S[20]'(by omega)).toNat = c20 := by subst hS; have := str_at hb8 (k := 20) (by omega); rw [hc20] at this; omega
  have s21 : (S[21]'(by omega)).toNat = c21 := by subst hS; have := str_at hb8 (k := 21) (by omega); rw [hc21] at this; omega
  have w1' : IntKind.i64.wrap (c1 : Int) = c1 := wrapI (by omega) (by omega)
  have w18 : IntKind.i64.wrap (c18 : Int) = c18 := wrapI (by omega) (by omega)
  have w19 : IntKind.i64.wrap (c19 : Int) = c19 := wrapI (by omega) (by omega)
  have w20 : IntKind.i64.wrap (c20 : Int) = c20 := wrapI (by omega) (by omega)
  have w21 : IntKind.i64.wrap (c21 : Int) = c21 := wrapI (by omega) (by omega)
  have x1 : IntKind.i64.wrap (2 + (c1 : Int)) = ((2 + c1 : Nat) : Int) := by rw [show 2 + (c1 : Int) = ((2 + c1 : Nat) : Int) by omega]; exact wrapI (by omega) (by omega)
  have x19 := wrapI (x := 256 * (c19 : Int)) (by omega) (by omega)
  have x21 := wrapI (x := 256 * (c21 : Int)) (by omega) (by omega)
  have hfe : (entE b i).f = (c18 : Int) + 256 * c19 := by unfold entE; rw [hc18, hc19]
  have hne : (entE b i).n = (c20 : Int) + 256 * c21 := by unfold entE; rw [hc20, hc21]
  have hnm : (entE b i).nm = (b.take (2 + c1)).drop 2 := by unfold entE; rw [hc1]; rfl
  have hie : (entE b i).i = i := rfl
  have y1 : IntKind.i64.wrap ((c18 : Int) + 256 * c19) = (entE b i).f := by rw [hfe]; exact wrapI (by omega) (by omega)
  have y2 : IntKind.i64.wrap ((c20 : Int) + 256 * c21) = (entE b i).n := by rw [hne]; exact wrapI (by omega) (by omega)
  have hok : entOk N b = (decide (1 ≤ c1 ∧ c1 ≤ 16) && (goodS (bs (strOfNums (entE b i).nm)) && (decide (8 ≤ (entE b i).f) && (decide (1 ≤ (entE b i).n) && (decide ((entE b i).f + (entE b i).n ≤ N) && decide (bytesE (entE b i).nm (entE b i).f (entE b i).n = b)))))) := by
    unfold entOk
    rw [(entE_i b i).1, (entE_i b i).2.1, (entE_i b i).2.2, hc1]
    congr 1
    simp only [decide_eq_decide]
    omega
  rw [hok] at hV2
  clear hok
  have hnb : B8 (entE b i).nm := by rw [hnm]; exact fun x hx => hb8 x (List.mem_of_mem_take (List.mem_of_mem_drop hx))
  have K1 : Keep (fun _ => False) w (w.alloc (.cells #[.string ⟨#[]⟩, .int .i64 0, .int .i64 0, .int .i64 0] 91)) := (Keep.refl _ _).alloc _
  have L1 := new50 w
  by_cases hn : 1 ≤ c1 ∧ c1 ≤ 16
  case neg =>
    have hV3 : RowKit.Hid (V = none) := by show _ = _; rw [hV2.out, decide_eq_false hn]; rfl
    obtain ⟨w2, hst, L2, K2⟩ := store50 L1 En.z
    have K3 : RowKit.Hid (Keep (fun _ => False) w w2) := K1.next K2 (fun x hx e => by subst e; exact absurd hx (Nat.lt_irrefl _))
    have hld := loadVar50 L2
    have hA : enA En.z = #[.string ⟨#[]⟩, .int .i64 0, .int .i64 0, .int .i64 0] := rfl
    rw [hA] at hst hld
    clear hV hV2 L1 L2 K1 K2 hcap hg hb hT hS hzb hc18 hc19 hc20 hc21 hc1 s18 s19 s20 s21 w18 w19 w20 w21 x1 x19 x21 hfe hne hnm hie y1 y2 hnb hl hz hbl hb8 hl8 b18 b19 b20 b21 hA
    generalize i * 32 = A at *
    generalize hX : i + 1 = X at *
    generalize X * 32 = B at *
    clear hX hi
    have hbad : (c1 : Int) < 1 ∨ 16 < (c1 : Int) := by omega
    rcases hbad with hbad | hbad
    · clear hn
      go_enter Tryz.func46, Tryz.ntmps46
      go_upto_region 4 with fail
      go_wp2_with (guard_target =~ wpList _ _ _ (Oper.mk _ (Op.store 91 (Operand.tmp 4) _) _ _ _ _ :: _) _ _; refine wpList_store_run rfl 91 (.tmp 4) (.tmp 25) rfl (by rfl) (by rfl) hst ?_)
      refine bodyPost_ret (v := .tuple #[.agg #[.string ⟨#[]⟩, .int .i64 0, .int .i64 0, .int .i64 0], .bool false]) ?_ rfl ⟨by rw [show V = none from hV3]; rfl, K3⟩
      rw [results_cell2 rfl]
      simp [asAddr, Result.andThen, hld]
    · clear hn
      have hbad2 : ¬ (c1 : Int) < 1 := by omega
      go_enter Tryz.func46, Tryz.ntmps46
      go_upto_region 4 with fail
      go_wp2_with (guard_target =~ wpList _ _ _ (Oper.mk _ (Op.store 91 (Operand.tmp 4) _) _ _ _ _ :: _) _ _; refine wpList_store_run rfl 91 (.tmp 4) (.tmp 25) rfl (by rfl) (by rfl) hst ?_)
      refine bodyPost_ret (v := .tuple #[.agg #[.string ⟨#[]⟩, .int .i64 0, .int .i64 0, .int .i64 0], .bool false]) ?_ rfl ⟨by rw [show V = none from hV3]; rfl, K3⟩
      rw [results_cell2 rfl]
      simp [asAddr, Result.andThen, hld]
  case pos =>
    obtain ⟨nm, hnm2⟩ : ∃ x, x = (entE b i).nm := ⟨_, rfl⟩
    obtain ⟨f, hf2⟩ : ∃ x, x = (entE b i).f := ⟨_, rfl⟩
    obtain ⟨n, hn2⟩ : ∃ x, x = (entE b i).n := ⟨_, rfl⟩
    have hx : RowKit.Hid (entE b i = ⟨nm, f, n, i⟩) := by show _ = _; rw [hnm2, hf2, hn2]; rfl
    rw [← hnm2] at hV2 hnm hnb
    rw [← hf2] at hV2 hfe y1
    rw [← hn2] at hV2 hne y2
    have hnl : nm.length ≤ 16 := by rw [hnm]; simp; omega
    have hnS : S.extract 2 (2 + c1) = strOfNums nm := by rw [hS, str_extract, hnm]
    have hGood := rgood25 (strOfNums nm) (by rw [strOfNums_size]; omega)
    have hBy := fun w => bytes25 hnb hnl f n (i : Int) w
    obtain ⟨G, hG⟩ : ∃ G, G = goodS (bs (strOfNums nm)) := ⟨_, rfl⟩
    rw [← hG] at hV2 hGood
    obtain ⟨SB, hSB⟩ : ∃ x, x = strOfNums (bytesE nm f n) := ⟨_, rfl⟩
    rw [← hSB] at hBy
    have hbb : B8 (bytesE nm f n) := by
      intro x hx
      unfold bytesE at hx
      rcases List.mem_append.1 hx with h | h
      · rcases List.mem_append.1 h with h | h
        · exact headE_b8 hnb f n x h
        · exact le4_b8 _ x h
      · rw [List.mem_replicate] at h; omega
    have hsb : decide (bytesE nm f n = b) = decide (SB = S) := by
      rw [decide_eq_decide, hSB, hS]
      exact ⟨fun e => by rw [e], fun e => str_inj hbb hb8 e⟩
    rw [hsb, decide_eq_true hn, Bool.true_and] at hV2
    obtain ⟨bad, hbad⟩ : ∃ x, RowKit.Hid (x = !(G && (decide (8 ≤ f) && (decide (1 ≤ n) && (decide (f + n ≤ N) && decide (SB = S)))))) := ⟨_, rfl⟩
    have hV3 : RowKit.Hid (V = if bad then none else some ⟨nm, f, n, i⟩) := by
      show _ = _
      rw [hV2.out, hbad.out, hx.out]
      cases (G && (decide (8 ≤ f) && (decide (1 ≤ n) && (decide (f + n ≤ N) && decide (SB = S))))) <;> rfl
    have hfb : 0 ≤ f ∧ f ≤ 65535 := by rw [hfe]; omega
    have hnbd : 0 ≤ n ∧ n ≤ 65535 := by rw [hne]; omega
    have y3 := wrapI (x := f + n) (by omega) (by omega)
    have m1 : ¬ (c1 : Int) < 1 := by omega
    have m2 : ¬ 16 < (c1 : Int) := by omega
    have m3 : 2 + c1 ≤ S.size := by omega
    have hsl : ∀ w', (Instr.slice 9 (.string S) (some (.int .i64 2)) (some (.int .i64 ((2 + c1 : Nat) : Int))) none).run Tryz.prog w' = .ok (.string (strOfNums nm)) w' := fun w' => by have := str_cut (s := S) (a := 2) (b := 2 + c1) (by omega) m3 w'; rw [hnS] at this; exact this
    clear hV hV2 hg hb hT hS hzb hc18 hc19 hc20 hc21 hc1 hfe hne hnm hie hnb hl hz hbl hb8 hl8 hnm2 hf2 hn2 hG hSB hbb hsb hnl hn hx
    generalize i * 32 = A at *
    generalize hX : i + 1 = X at *
    generalize X * 32 = B at *
    generalize hY : 2 + c1 = Y at *
    clear hX hi
    go_enter Tryz.func46, Tryz.ntmps46
    go_upto_region 5 with fail
    generalize w.alloc (.cells #[.string ⟨#[]⟩, .int .i64 0, .int .i64 0, .int .i64 0] 91) = w1 at *
    have hg0 : RowKit.Hid (w.heap.size ≤ w.heap.size) := Nat.le_refl _
    have K1' : RowKit.Hid (Keep (fun _ => False) w w1) := K1
    have hlt : RowKit.Hid (w.heap.size < w1.heap.size) := L1.lt (by omega)
    have L1' : RowKit.Hid (Blk w1 w.heap.size 4 (enC En.z)) := L1
    clear L1 K1
    obtain ⟨g0, hgg⟩ : ∃ g, RowKit.Hid (g = w.heap.size) := ⟨_, rfl⟩
    rw [← hgg.out] at L1' hlt ⊢
    go_cut [8] from 26 to 48 (fun v wx => ∃ g8, v = .pointer (some ⟨g8, 0, none⟩) ∧ Blk wx g8 4 (enC ⟨nm, f, n, i⟩) ∧ Keep (fun _ => False) w1 wx ∧ w1.heap.size ≤ g8 ∧ g8 < wx.heap.size)
    case first =>
      clear hbad hV3 hBy hGood hcap K1' hgg hlt L1' y3 m1 m2
      refine wp_region_noPanic ?_
      refine wp_region_held_drew (S := fun w' => Keep (fun _ => False) w1 w') (by kernel_rfl) ((Keep.refl _ _).drew) (fun hH0 => ?_)
      refine tk 0 hH0 ?_
      refine tk 1 hH0 ?_
      refine tk 2 hH0 ?_
      refine tk 3 hH0 ?_
      refine tk 4 hH0 ?_
      refine tk 5 hH0 ?_
      refine tk 6 hH0 ?_
      refine tk 7 hH0 ?_
      refine tk 8 hH0 ?_
      refine tk 9 hH0 ?_
      refine tk 10 hH0 ?_
      refine tk 11 hH0 ?_
      refine tk 12 hH0 ?_
      refine tk 13 hH0 ?_
      refine tk 14 hH0 ?_
      refine tk 15 hH0 ?_
      refine tk 16 hH0 ?_
      refine tk 17 hH0 ?_
      refine tk 18 hH0 ?_
      refine tk 19 hH0 ?_
      refine tk 20 hH0 ?_
      refine tk 21 hH0 ?_
      refine rd 22 (fun K hK => ?_)
      obtain ⟨wA, hA, bA, kA⟩ := alloc50 (w1.drew)
      refine step_alloc_run (by rfl) 91 rfl hA ?_
      refine hK.out _ _ ((((Keep.refl _ _).drew).trans kA)) (fun hH1 => ?_)
      clear hK K
      simp only [Act.put, List.setIfInBounds_toArray, List.set_cons_zero, List.set_cons_succ]
      refine rd 23 (fun K hK => ?_)
      obtain ⟨wB, hB, bB, kB⟩ := store50 bA ⟨nm, f, n, i⟩
      refine step_store_run (by rfl) 91 (.tmp 8) (.tmp 47) rfl (by rfl) (by first | rfl | (rw [hen.out]; rfl)) hB ?_
      refine hK.out _ _ (((((Keep.refl _ _).drew).trans kA).next kB (fun x hx e => by subst e; exact absurd hx (Nat.lt_irrefl _)))) (fun hH2 => ?_)
      clear hK K
      simp only [Act.put]
      refine wpAnyH_done (by kernel_rfl) ?_ _
      refine NoPanic.normal ?_
      go_wp2_with fail
      go_meet
      exact ⟨_, rfl, bB, ((((Keep.refl _ _).drew).trans kA).next kB (fun x hx e => by subst e; exact absurd hx (Nat.lt_irrefl _))), Nat.le_refl _, World.block_lt_of_cell? _ _ (bB 0 (by omega)).1⟩
    case rest =>
      obtain ⟨g8, rfl, L8, k8, l8, l9⟩ := hcut
      clear s1 s18 s19 s20 s21 w1' w18 w19 w20 w21 x1 x19 x21 y1 y2 q1 q2 q3 d1 d2 hE hnS hsl m1 m2 m3 hY b1 b18 b19 b20 b21 hzS
      generalize wc = w2 at *
      have hbx : RowKit.Hid ((∀ w', Keep (fun _ => False) w2 w' → w'.cell? ⟨g8, 0, none⟩ = some (.string (strOfNums nm))) ∧ (∀ w', Keep (fun _ => False) w2 w' → w'.cell? ⟨g8, 1, none⟩ = some (.int .i64 f)) ∧ (∀ w', Keep (fun _ => False) w2 w' → w'.cell? ⟨g8, 2, none⟩ = some (.int .i64 n))) :=
        ⟨fun w' k => ((L8.keep k (fun e => e)) 0 (by omega)).1, fun w' k => ((L8.keep k (fun e => e)) 1 (by omega)).1, fun w' k => ((L8.keep k (fun e => e)) 2 (by omega)).1⟩
      have L8' : RowKit.Hid (Blk w2 g8 4 (enC ⟨nm, f, n, i⟩)) := L8
      have k8' : RowKit.Hid (Keep (fun _ => False) w1 w2) := k8
      have l8' : RowKit.Hid (w1.heap.size ≤ g8) := l8
      have hbad' : RowKit.Hid (bad = !(G && (decide (8 ≤ f) && (decide (1 ≤ n) && (decide (f + n ≤ N) && decide (SB = S)))))) := hbad
      clear L8 k8 l8 l9 hbad
      go_upto_region 6 with fail
      go_cut [77] from 48 to 77 (fun v wx => v = .bool bad ∧ Keep (fun _ => False) w2 wx)
      case first =>
        clear hV3 K1' hgg hlt L1' k8' l8'
        cases hGG : G with
        | false =>
          subst hGG
          have hb1 : bad = true := by rw [hbad'.out]; rfl
          subst hb1
          clear hbad' hBy hcap y3 hfb hnbd
          refine wp_region_noPanic ?_
          refine wp_region_held_drew (S := fun w' => Keep (fun _ => False) w2 w') (by kernel_rfl) ((Keep.refl _ _).drew) (fun hH0 => ?_)
          refine tk 0 hH0 ?_
          refine tk 1 hH0 ?_ (hy := Or.inl ⟨by rfl, by intro w' hSw; have z0 := hbx.out.1 w' hSw; have z1 := hbx.out.2.1 w' hSw; have z2 := hbx.out.2.2 w' hSw; clear hSw; go_simp; try with_reducible rfl⟩)
          refine rd 2 (fun K hK => ?_)
          refine step_call_want (vs := #[.string (strOfNums nm)]) (R := fun v wz => v = .bool false ∧ wz = w2.drew) (by rfl) 16 _ _ rfl (by simp [Act.eval]) gcall16 ((hGood w2.drew).mono (by rintro e wz ⟨rfl, rfl⟩; exact ⟨_, rfl, rfl, rfl⟩)) ?_
          rintro v wA ⟨rfl, eA⟩; subst eA
          refine hK.out _ _ (((Keep.refl _ _).drew)) (fun hH1 => ?_)
          clear hK K
          simp only [Act.put, List.setIfInBounds_toArray, List.set_cons_zero, List.set_cons_succ]
          refine tk 3 hH1 ?_
          refine tk 4 hH1 ?_
          refine tk 5 (v := undef) hH1 ?_ (hy := Or.inr ⟨by rfl, by rfl⟩)
          refine tk 6 (v := undef) hH1 ?_ (hy := Or.inr ⟨by rfl, by rfl⟩)
          refine tk 7 (v := undef) hH1 ?_ (hy := Or.inr ⟨by rfl, by rfl⟩)
          refine tk 8 hH1 ?_
          refine tk 9 hH1 ?_
          refine tk 10 (v := undef) hH1 ?_ (hy := Or.inr ⟨by rfl, by rfl⟩)
          refine tk 11 (v := undef) hH1 ?_ (hy := Or.inr ⟨by rfl, by rfl⟩)
          refine tk 12 (v := undef) hH1 ?_ (hy := Or.inr ⟨by rfl, by rfl⟩)
          refine tk 13 hH1 ?_
          refine tk 14 hH1 ?_
          refine tk 15 (v := undef) hH1 ?_ (hy := Or.inr ⟨by rfl, by rfl⟩)
          refine tk 16 (v := undef) hH1 ?_ (hy := Or.inr ⟨by rfl, by rfl⟩)
          refine tk 17 (v := undef) hH1 ?_ (hy := Or.inr ⟨by rfl, by rfl⟩)
          refine tk 18 (v := undef) hH1 ?_ (hy := Or.inr ⟨by rfl, by rfl⟩)
          refine tk 19 (v := undef) hH1 ?_ (hy := Or.inr ⟨by rfl, by rfl⟩)
          refine tk 20 (v := undef) hH1 ?_ (hy := Or.inr ⟨by rfl, by rfl⟩)
          refine tk 21 (v := undef) hH1 ?_ (hy := Or.inr ⟨by rfl, by rfl⟩)
          refine tk 22 (v := undef) hH1 ?_ (hy := Or.inr ⟨by rfl, by rfl⟩)
          refine tk 23 hH1 ?_
          refine tk 24 hH1 ?_
          refine tk 25 (v := undef) hH1 ?_ (hy := Or.inr ⟨by rfl, by rfl⟩)
          refine tk 27 (v := undef) hH1 ?_ (hy := Or.inr ⟨by rfl, by rfl⟩)
          refine tk 26 (v := undef) hH1 ?_ (hy := Or.inr ⟨by rfl, by rfl⟩)
          refine tk 28 (v := undef) hH1 ?_ (hy := Or.inr ⟨by rfl, by rfl⟩)
          refine tk 29 hH1 ?_
          refine wpAnyH_done (by kernel_rfl) ?_ _
          refine NoPanic.normal ?_
          go_wp2_with fail
          go_meet
          exact ⟨rfl, ((Keep.refl _ _).drew)⟩
        | true =>
          subst hGG
          rw [Bool.true_and] at hbad'
          by_cases c2 : f < 8
          · have hb1 : bad = true := by rw [hbad'.out, decide_eq_false (by omega : ¬ 8 ≤ f)]; rfl
            subst hb1
            clear hbad' hBy hcap y3 hfb hnbd
            refine wp_region_noPanic ?_
            refine wp_region_held_drew (S := fun w' => Keep (fun _ => False) w2 w') (by kernel_rfl) ((Keep.refl _ _).drew) (fun hH0 => ?_)
            refine tk 0 hH0 ?_
            refine tk 1 hH0 ?_ (hy := Or.inl ⟨by rfl, by intro w' hSw; have z0 := hbx.out.1 w' hSw; have z1 := hbx.out.2.1 w' hSw; have z2 := hbx.out.2.2 w' hSw; clear hSw; go_simp; try with_reducible rfl⟩)
            refine rd 2 (fun K hK => ?_)
            refine step_call_want (vs := #[.string (strOfNums nm)]) (R := fun v wz => v = .bool true ∧ wz = w2.drew) (by rfl) 16 _ _ rfl (by simp [Act.eval]) gcall16 ((hGood w2.drew).mono (by rintro e wz ⟨rfl, rfl⟩; exact ⟨_, rfl, rfl, rfl⟩)) ?_
            rintro v wA ⟨rfl, eA⟩; subst eA
            refine hK.out _ _ (((Keep.refl _ _).drew)) (fun hH1 => ?_)
            clear hK K
            simp only [Act.put, List.setIfInBounds_toArray, List.set_cons_zero, List.set_cons_succ]
            refine tk 3 hH1 ?_
            refine tk 4 hH1 ?_
            refine tk 5 hH1 ?_
            refine tk 6 hH1 ?_ (hy := Or.inl ⟨by rfl, by intro w' hSw; have z0 := hbx.out.1 w' hSw; have z1 := hbx.out.2.1 w' hSw; have z2 := hbx.out.2.2 w' hSw; clear hSw; go_simp; try with_reducible rfl⟩)
            refine tk 7 hH1 ?_
            refine tk 8 hH1 ?_
            refine tk 9 hH1 ?_
            refine tk 10 (v := undef) hH1 ?_ (hy := Or.inr ⟨by rfl, by rfl⟩)
            refine tk 11 (v := undef) hH1 ?_ (hy := Or.inr ⟨by rfl, by rfl⟩)
            refine tk 12 (v := undef) hH1 ?_ (hy := Or.inr ⟨by rfl, by rfl⟩)
            refine tk 13 hH1 ?_
            refine tk 14 hH1 ?_
            refine tk 15 (v := undef) hH1 ?_ (hy := Or.inr ⟨by rfl, by rfl⟩)
            refine tk 16 (v := undef) hH1 ?_ (hy := Or.inr ⟨by rfl, by rfl⟩)
            refine tk 17 (v := undef) hH1 ?_ (hy := Or.inr ⟨by rfl, by rfl⟩)
            refine tk 18 (v := undef) hH1 ?_ (hy := Or.inr ⟨by rfl, by rfl⟩)
            refine tk 19 (v := undef) hH1 ?_ (hy := Or.inr ⟨by rfl, by rfl⟩)
            refine tk 20 (v := undef) hH1 ?_ (hy := Or.inr ⟨by rfl, by rfl⟩)
            refine tk 21 (v := undef) hH1 ?_ (hy := Or.inr ⟨by rfl, by rfl⟩)
            refine tk 22 (v := undef) hH1 ?_ (hy := Or.inr ⟨by rfl, by rfl⟩)
            refine tk 23 hH1 ?_
            refine tk 24 hH1 ?_
            refine tk 25 (v := undef) hH1 ?_ (hy := Or.inr ⟨by rfl, by rfl⟩)
            refine tk 27 (v := undef) hH1 ?_ (hy := Or.inr ⟨by rfl, by rfl⟩)
            refine tk 26 (v := undef) hH1 ?_ (hy := Or.inr ⟨by rfl, by rfl⟩)
            refine tk 28 (v := undef) hH1 ?_ (hy := Or.inr ⟨by rfl, by rfl⟩)
            refine tk 29 hH1 ?_
            refine wpAnyH_done (by kernel_rfl) ?_ _
            refine NoPanic.normal ?_
            go_wp2_with fail
            go_meet
            exact ⟨rfl, ((Keep.refl _ _).drew)⟩
          by_cases c3 : n < 1
          · have hb1 : bad = true := by rw [hbad'.out, decide_eq_false (by omega : ¬ 1 ≤ n), Bool.false_and, Bool.and_false]; rfl
            subst hb1
            clear hbad' hBy hcap y3 hfb hnbd
            refine wp_region_noPanic ?_
            refine wp_region_held_drew (S := fun w' => Keep (fun _ => False) w2 w') (by kernel_rfl) ((Keep.refl _ _).drew) (fun hH0 => ?_)
            refine tk 0 hH0 ?_
            refine tk 1 hH0 ?_ (hy := Or.inl ⟨by rfl, by intro w' hSw; have z0 := hbx.out.1 w' hSw; have z1 := hbx.out.2.1 w' hSw; have z2 := hbx.out.2.2 w' hSw; clear hSw; go_simp; try with_reducible rfl⟩)
            refine rd 2 (fun K hK => ?_)
            refine step_call_want (vs := #[.string (strOfNums nm)]) (R := fun v wz => v = .bool true ∧ wz = w2.drew) (by rfl) 16 _ _ rfl (by simp [Act.eval]) gcall16 ((hGood w2.drew).mono (by rintro e wz ⟨rfl, rfl⟩; exact ⟨_, rfl, rfl, rfl⟩)) ?_
            rintro v wA ⟨rfl, eA⟩; subst eA
            refine hK.out _ _ (((Keep.refl _ _).drew)) (fun hH1 => ?_)
            clear hK K
            simp only [Act.put, List.setIfInBounds_toArray, List.set_cons_zero, List.set_cons_succ]
            refine tk 3 hH1 ?_
            refine tk 4 hH1 ?_
            refine tk 5 hH1 ?_
            refine tk 6 hH1 ?_ (hy := Or.inl ⟨by rfl, by intro w' hSw; have z0 := hbx.out.1 w' hSw; have z1 := hbx.out.2.1 w' hSw; have z2 := hbx.out.2.2 w' hSw; clear hSw; go_simp; try with_reducible rfl⟩)
            refine tk 7 hH1 ?_
            refine tk 8 hH1 ?_
            refine tk 9 hH1 ?_
            refine tk 10 hH1 ?_
            refine tk 11 hH1 ?_ (hy := Or.inl ⟨by rfl, by intro w' hSw; have z0 := hbx.out.1 w' hSw; have z1 := hbx.out.2.1 w' hSw; have z2 := hbx.out.2.2 w' hSw; clear hSw; go_simp; try with_reducible rfl⟩)
            refine tk 12 hH1 ?_
            refine tk 13 hH1 ?_
            refine tk 14 hH1 ?_
            refine tk 15 (v := undef) hH1 ?_ (hy := Or.inr ⟨by rfl, by rfl⟩)
            refine tk 16 (v := undef) hH1 ?_ (hy := Or.inr ⟨by rfl, by rfl⟩)
            refine tk 17 (v := undef) hH1 ?_ (hy := Or.inr ⟨by rfl, by rfl⟩)
            refine tk 18 (v := undef) hH1 ?_ (hy := Or.inr ⟨by rfl, by rfl⟩)
            refine tk 19 (v := undef) hH1 ?_ (hy := Or.inr ⟨by rfl, by rfl⟩)
            refine tk 20 (v := undef) hH1 ?_ (hy := Or.inr ⟨by rfl, by rfl⟩)
            refine tk 21 (v := undef) hH1 ?_ (hy := Or.inr ⟨by rfl, by rfl⟩)
            refine tk 22 (v := undef) hH1 ?_ (hy := Or.inr ⟨by rfl, by rfl⟩)
            refine tk 23 hH1 ?_
            refine tk 24 hH1 ?_
            refine tk 25 (v := undef) hH1 ?_ (hy := Or.inr ⟨by rfl, by rfl⟩)
            refine tk 27 (v := undef) hH1 ?_ (hy := Or.inr ⟨by rfl, by rfl⟩)
            refine tk 26 (v := undef) hH1 ?_ (hy := Or.inr ⟨by rfl, by rfl⟩)
            refine tk 28 (v := undef) hH1 ?_ (hy := Or.inr ⟨by rfl, by rfl⟩)
            refine tk 29 hH1 ?_
            refine wpAnyH_done (by kernel_rfl) ?_ _
            refine NoPanic.normal ?_
            go_wp2_with fail
            go_meet
            exact ⟨rfl, ((Keep.refl _ _).drew)⟩
          by_cases c4 : (N : Int) < f + n
          · have hb1 : bad = true := by rw [hbad'.out, decide_eq_false (by omega : ¬ f + n ≤ N), Bool.false_and, Bool.and_false, Bool.and_false]; rfl
            subst hb1
            clear hbad' hBy hfb hnbd
            refine wp_region_noPanic ?_
            refine wp_region_held_drew (S := fun w' => Keep (fun _ => False) w2 w') (by kernel_rfl) ((Keep.refl _ _).drew) (fun hH0 => ?_)
            refine tk 0 hH0 ?_
            refine tk 1 hH0 ?_ (hy := Or.inl ⟨by rfl, by intro w' hSw; have z0 := hbx.out.1 w' hSw; have z1 := hbx.out.2.1 w' hSw; have z2 := hbx.out.2.2 w' hSw; clear hSw; go_simp; try with_reducible rfl⟩)
            refine rd 2 (fun K hK => ?_)
            refine step_call_want (vs := #[.string (strOfNums nm)]) (R := fun v wz => v = .bool true ∧ wz = w2.drew) (by rfl) 16 _ _ rfl (by simp [Act.eval]) gcall16 ((hGood w2.drew).mono (by rintro e wz ⟨rfl, rfl⟩; exact ⟨_, rfl, rfl, rfl⟩)) ?_
            rintro v wA ⟨rfl, eA⟩; subst eA
            refine hK.out _ _ (((Keep.refl _ _).drew)) (fun hH1 => ?_)
            clear hK K
            simp only [Act.put, List.setIfInBounds_toArray, List.set_cons_zero, List.set_cons_succ]
            refine tk 3 hH1 ?_
            refine tk 4 hH1 ?_
            refine tk 5 hH1 ?_
            refine tk 6 hH1 ?_ (hy := Or.inl ⟨by rfl, by intro w' hSw; have z0 := hbx.out.1 w' hSw; have z1 := hbx.out.2.1 w' hSw; have z2 := hbx.out.2.2 w' hSw; clear hSw; go_simp; try with_reducible rfl⟩)
            refine tk 7 hH1 ?_
            refine tk 8 hH1 ?_
            refine tk 9 hH1 ?_
            refine tk 10 hH1 ?_
            refine tk 11 hH1 ?_ (hy := Or.inl ⟨by rfl, by intro w' hSw; have z0 := hbx.out.1 w' hSw; have z1 := hbx.out.2.1 w' hSw; have z2 := hbx.out.2.2 w' hSw; clear hSw; go_simp; try with_reducible rfl⟩)
            refine tk 12 hH1 ?_
            refine tk 13 hH1 ?_
            refine tk 14 hH1 ?_
            refine tk 15 hH1 ?_
            refine tk 16 hH1 ?_ (hy := Or.inl ⟨by rfl, by intro w' hSw; have z0 := hbx.out.1 w' hSw; have z1 := hbx.out.2.1 w' hSw; have z2 := hbx.out.2.2 w' hSw; clear hSw; go_simp; try with_reducible rfl⟩)
            refine tk 17 hH1 ?_
            refine tk 18 hH1 ?_ (hy := Or.inl ⟨by rfl, by intro w' hSw; have z0 := hbx.out.1 w' hSw; have z1 := hbx.out.2.1 w' hSw; have z2 := hbx.out.2.2 w' hSw; clear hSw; go_simp; try with_reducible rfl⟩)
            refine tk 19 hH1 ?_
            refine tk 20 hH1 ?_
            refine rd 21 (fun K hK => ?_)
            refine step_call_want (vs := #[.string T]) (R := fun v wz => v = .int .i64 (N : Int) ∧ wz = w2.drew) (by rfl) 43 _ _ rfl (by simp [Act.eval]) gcall24 ((hcap w2.drew).mono (by rintro e wz ⟨rfl, rfl⟩; exact ⟨_, rfl, rfl, rfl⟩)) ?_
            rintro v wB ⟨rfl, eB⟩; subst eB
            refine hK.out _ _ (((Keep.refl _ _).drew)) (fun hH2 => ?_)
            clear hK K
            simp only [Act.put, List.setIfInBounds_toArray, List.set_cons_zero, List.set_cons_succ]
            refine tk 22 hH2 ?_
            refine tk 23 hH2 ?_
            refine tk 24 hH2 ?_
            refine tk 25 (v := undef) hH2 ?_ (hy := Or.inr ⟨by rfl, by rfl⟩)
            refine tk 27 (v := undef) hH2 ?_ (hy := Or.inr ⟨by rfl, by rfl⟩)
            refine tk 26 (v := undef) hH2 ?_ (hy := Or.inr ⟨by rfl, by rfl⟩)
            refine tk 28 (v := undef) hH2 ?_ (hy := Or.inr ⟨by rfl, by rfl⟩)
            refine tk 29 hH2 ?_
            refine wpAnyH_done (by kernel_rfl) ?_ _
            refine NoPanic.normal ?_
            go_wp2_with fail
            go_meet
            exact ⟨rfl, ((Keep.refl _ _).drew)⟩
          rw [decide_eq_true (by omega : 8 ≤ f), decide_eq_true (by omega : 1 ≤ n), decide_eq_true (by omega : f + n ≤ N), Bool.true_and, Bool.true_and, Bool.true_and] at hbad'
          by_cases c5 : SB = S
          · subst c5
            have hb1 : bad = false := by rw [hbad'.out]; simp
            subst hb1
            clear hbad' hfb hnbd
            refine wp_region_noPanic ?_
            refine wp_region_held_drew (S := fun w' => Keep (fun _ => False) w2 w') (by kernel_rfl) ((Keep.refl _ _).drew) (fun hH0 => ?_)
            refine tk 0 hH0 ?_
            refine tk 1 hH0 ?_ (hy := Or.inl ⟨by rfl, by intro w' hSw; have z0 := hbx.out.1 w' hSw; have z1 := hbx.out.2.1 w' hSw; have z2 := hbx.out.2.2 w' hSw; clear hSw; go_simp; try with_reducible rfl⟩)
            refine rd 2 (fun K hK => ?_)
            refine step_call_want (vs := #[.string (strOfNums nm)]) (R := fun v wz => v = .bool true ∧ wz = w2.drew) (by rfl) 16 _ _ rfl (by simp [Act.eval]) gcall16 ((hGood w2.drew).mono (by rintro e wz ⟨rfl, rfl⟩; exact ⟨_, rfl, rfl, rfl⟩)) ?_
            rintro v wA ⟨rfl, eA⟩; subst eA
            refine hK.out _ _ (((Keep.refl _ _).drew)) (fun hH1 => ?_)
            clear hK K
            simp only [Act.put, List.setIfInBounds_toArray, List.set_cons_zero, List.set_cons_succ]
            refine tk 3 hH1 ?_
            refine tk 4 hH1 ?_
            refine tk 5 hH1 ?_
            refine tk 6 hH1 ?_ (hy := Or.inl ⟨by rfl, by intro w' hSw; have z0 := hbx.out.1 w' hSw; have z1 := hbx.out.2.1 w' hSw; have z2 := hbx.out.2.2 w' hSw; clear hSw; go_simp; try with_reducible rfl⟩)
            refine tk 7 hH1 ?_
            refine tk 8 hH1 ?_
            refine tk 9 hH1 ?_
            refine tk 10 hH1 ?_
            refine tk 11 hH1 ?_ (hy := Or.inl ⟨by rfl, by intro w' hSw; have z0 := hbx.out.1 w' hSw; have z1 := hbx.out.2.1 w' hSw; have z2 := hbx.out.2.2 w' hSw; clear hSw; go_simp; try with_reducible rfl⟩)
            refine tk 12 hH1 ?_
            refine tk 13 hH1 ?_
            refine tk 14 hH1 ?_
            refine tk 15 hH1 ?_
            refine tk 16 hH1 ?_ (hy := Or.inl ⟨by rfl, by intro w' hSw; have z0 := hbx.out.1 w' hSw; have z1 := hbx.out.2.1 w' hSw; have z2 := hbx.out.2.2 w' hSw; clear hSw; go_simp; try with_reducible rfl⟩)
            refine tk 17 hH1 ?_
            refine tk 18 hH1 ?_ (hy := Or.inl ⟨by rfl, by intro w' hSw; have z0 := hbx.out.1 w' hSw; have z1 := hbx.out.2.1 w' hSw; have z2 := hbx.out.2.2 w' hSw; clear hSw; go_simp; try with_reducible rfl⟩)
            refine tk 19 hH1 ?_
            refine tk 20 hH1 ?_
            refine rd 21 (fun K hK => ?_)
            refine step_call_want (vs := #[.string T]) (R := fun v wz => v = .int .i64 (N : Int) ∧ wz = w2.drew) (by rfl) 43 _ _ rfl (by simp [Act.eval]) gcall24 ((hcap w2.drew).mono (by rintro e wz ⟨rfl, rfl⟩; exact ⟨_, rfl, rfl, rfl⟩)) ?_
            rintro v wB ⟨rfl, eB⟩; subst eB
            refine hK.out _ _ (((Keep.refl _ _).drew)) (fun hH2 => ?_)
            clear hK K
            simp only [Act.put, List.setIfInBounds_toArray, List.set_cons_zero, List.set_cons_succ]
            refine tk 22 hH2 ?_
            refine tk 23 hH2 ?_
            refine tk 24 hH2 ?_
            refine tk 25 (v := .agg #[.string (strOfNums nm), .int .i64 f, .int .i64 n, .int .i64 (i : Int)]) hH2 ?_ (hy := yields_load (by rfl) 91 _ rfl (by rfl) (fun w' h => load50 (L8'.out.keep h (fun e => e))))
            refine tk 27 hH2 ?_
            refine rd 26 (fun K hK => ?_)
            refine step_call_want (vs := #[.agg #[.string (strOfNums nm), .int .i64 f, .int .i64 n, .int .i64 (i : Int)]]) (R := fun v wz => v = .string SB ∧ Keep (fun _ => False) w2.drew wz) (by rfl) 65 _ _ rfl (by simp [Act.eval]) gcall32 ((hBy w2.drew).mono (by rintro e wz ⟨rfl, k⟩; exact ⟨_, rfl, rfl, k⟩)) ?_
            rintro v wC ⟨rfl, kC⟩
            refine hK.out _ _ ((((Keep.refl _ _).drew).trans kC)) (fun hH3 => ?_)
            clear hK K
            simp only [Act.put, List.setIfInBounds_toArray, List.set_cons_zero, List.set_cons_succ]
            refine tk 28 hH3 ?_
            refine tk 29 hH3 ?_
            refine wpAnyH_done (by kernel_rfl) ?_ _
            refine NoPanic.normal ?_
            go_wp2_with fail
            go_meet
            exact ⟨rfl, (((Keep.refl _ _).drew).trans kC)⟩
          · have hb1 : bad = true := by rw [hbad'.out, decide_eq_false c5]; rfl
            have c7 : (SB.toList == S.toList) = false := by rw [ba_eq, decide_eq_false c5]
            subst hb1
            clear hbad' hfb hnbd
            refine wp_region_noPanic ?_
            refine wp_region_held_drew (S := fun w' => Keep (fun _ => False) w2 w') (by kernel_rfl) ((Keep.refl _ _).drew) (fun hH0 => ?_)
            refine tk 0 hH0 ?_
            refine tk 1 hH0 ?_ (hy := Or.inl ⟨by rfl, by intro w' hSw; have z0 := hbx.out.1 w' hSw; have z1 := hbx.out.2.1 w' hSw; have z2 := hbx.out.2.2 w' hSw; clear hSw; go_simp; try with_reducible rfl⟩)
            refine rd 2 (fun K hK => ?_)
            refine step_call_want (vs := #[.string (strOfNums nm)]) (R := fun v wz => v = .bool true ∧ wz = w2.drew) (by rfl) 16 _ _ rfl (by simp [Act.eval]) gcall16 ((hGood w2.drew).mono (by rintro e wz ⟨rfl, rfl⟩; exact ⟨_, rfl, rfl, rfl⟩)) ?_
            rintro v wA ⟨rfl, eA⟩; subst eA
            refine hK.out _ _ (((Keep.refl _ _).drew)) (fun hH1 => ?_)
            clear hK K
            simp only [Act.put, List.setIfInBounds_toArray, List.set_cons_zero, List.set_cons_succ]
            refine tk 3 hH1 ?_
            refine tk 4 hH1 ?_
            refine tk 5 hH1 ?_
            refine tk 6 hH1 ?_ (hy := Or.inl ⟨by rfl, by intro w' hSw; have z0 := hbx.out.1 w' hSw; have z1 := hbx.out.2.1 w' hSw; have z2 := hbx.out.2.2 w' hSw; clear hSw; go_simp; try with_reducible rfl⟩)
            refine tk 7 hH1 ?_
            refine tk 8 hH1 ?_
            refine tk 9 hH1 ?_
            refine tk 10 hH1 ?_
            refine tk 11 hH1 ?_ (hy := Or.inl ⟨by rfl, by intro w' hSw; have z0 := hbx.out.1 w' hSw; have z1 := hbx.out.2.1 w' hSw; have z2 := hbx.out.2.2 w' hSw; clear hSw; go_simp; try with_reducible rfl⟩)
            refine tk 12 hH1 ?_
            refine tk 13 hH1 ?_
            refine tk 14 hH1 ?_
            refine tk 15 hH1 ?_
            refine tk 16 hH1 ?_ (hy := Or.inl ⟨by rfl, by intro w' hSw; have z0 := hbx.out.1 w' hSw; have z1 := hbx.out.2.1 w' hSw; have z2 := hbx.out.2.2 w' hSw; clear hSw; go_simp; try with_reducible rfl⟩)
            refine tk 17 hH1 ?_
            refine tk 18 hH1 ?_ (hy := Or.inl ⟨by rfl, by intro w' hSw; have z0 := hbx.out.1 w' hSw; have z1 := hbx.out.2.1 w' hSw; have z2 := hbx.out.2.2 w' hSw; clear hSw; go_simp; try with_reducible rfl⟩)
            refine tk 19 hH1 ?_
            refine tk 20 hH1 ?_
            refine rd 21 (fun K hK => ?_)
            refine step_call_want (vs := #[.string T]) (R := fun v wz => v = .int .i64 (N : Int) ∧ wz = w2.drew) (by rfl) 43 _ _ rfl (by simp [Act.eval]) gcall24 ((hcap w2.drew).mono (by rintro e wz ⟨rfl, rfl⟩; exact ⟨_, rfl, rfl, rfl⟩)) ?_
            rintro v wB ⟨rfl, eB⟩; subst eB
            refine hK.out _ _ (((Keep.refl _ _).drew)) (fun hH2 => ?_)
            clear hK K
            simp only [Act.put, List.setIfInBounds_toArray, List.set_cons_zero, List.set_cons_succ]
            refine tk 22 hH2 ?_
            refine tk 23 hH2 ?_
            refine tk 24 hH2 ?_
            refine tk 25 (v := .agg #[.string (strOfNums nm), .int .i64 f, .int .i64 n, .int .i64 (i : Int)]) hH2 ?_ (hy := yields_load (by rfl) 91 _ rfl (by rfl) (fun w' h => load50 (L8'.out.keep h (fun e => e))))
            refine tk 27 hH2 ?_
            refine rd 26 (fun K hK => ?_)
            refine step_call_want (vs := #[.agg #[.string (strOfNums nm), .int .i64 f, .int .i64 n, .int .i64 (i : Int)]]) (R := fun v wz => v = .string SB ∧ Keep (fun _ => False) w2.drew wz) (by rfl) 65 _ _ rfl (by simp [Act.eval]) gcall32 ((hBy w2.drew).mono (by rintro e wz ⟨rfl, k⟩; exact ⟨_, rfl, rfl, k⟩)) ?_
            rintro v wC ⟨rfl, kC⟩
            refine hK.out _ _ ((((Keep.refl _ _).drew).trans kC)) (fun hH3 => ?_)
            clear hK K
            simp only [Act.put, List.setIfInBounds_toArray, List.set_cons_zero, List.set_cons_succ]
            refine tk 28 hH3 ?_
            refine tk 29 hH3 ?_
            refine wpAnyH_done (by kernel_rfl) ?_ _
            refine NoPanic.normal ?_
            go_wp2_with fail
            go_meet
            exact ⟨rfl, (((Keep.refl _ _).drew).trans kC)⟩
      case rest =>
        obtain ⟨rfl, k9⟩ := hcut
        generalize wc = w3 at *
        have L1b : Blk w3 g0 4 (enC En.z) := (L1'.out.keep k8'.out (fun e => e)).keep k9 (fun e => e)
        have L8b : Blk w3 g8 4 (enC ⟨nm, f, n, i⟩) := L8'.out.keep k9 (fun e => e)
        have hK : Keep (fun _ => False) w w3 := (K1'.out.trans k8'.out).trans k9
        have hg0' : w.heap.size ≤ g0 := by rw [hgg.out]; exact Nat.le_refl _
        cases bad with
        | true =>
          obtain ⟨w4, hst, L2, K2⟩ := store50 L1b En.z
          have K3 : RowKit.Hid (Keep (fun _ => False) w w4) := hK.next K2 (fun x hx e => by subst e; omega)
          have hld := loadVar50 L2
          have hA : enA En.z = #[.string ⟨#[]⟩, .int .i64 0, .int .i64 0, .int .i64 0] := rfl
          rw [hA] at hst hld
          clear hbad' hBy hGood hcap K1' hgg hlt L1' k8' l8' L8' hbx L1b L8b hK hg0' L2 K2 k9 y3 hfb hnbd hA
          go_wp2_with (guard_target =~ wpList _ _ _ (Oper.mk _ (Op.store 91 (Operand.tmp 4) _) _ _ _ _ :: _) _ _; refine wpList_store_run rfl 91 (.tmp 4) (.tmp 78) rfl (by rfl) (by rfl) hst ?_)
          refine bodyPost_ret (v := .tuple #[.agg #[.string ⟨#[]⟩, .int .i64 0, .int .i64 0, .int .i64 0], .bool false]) ?_ rfl ⟨by rw [hV3.out]; rfl, K3⟩
          rw [results_cell2 rfl]
          simp [asAddr, Result.andThen, hld]
        | false =>
          have hl8 := load50 L8b
          obtain ⟨w4, hst, L2, K2⟩ := store50 L1b ⟨nm, f, n, i⟩
          have K3 : RowKit.Hid (Keep (fun _ => False) w w4) := hK.next K2 (fun x hx e => by subst e; omega)
          have hld := loadVar50 L2
          have hA : enA ⟨nm, f, n, i⟩ = #[.string (strOfNums nm), .int .i64 f, .int .i64 n, .int .i64 i] := rfl
          rw [hA] at hst hld hl8
          clear hbad' hBy hGood hcap K1' hgg hlt L1' k8' l8' L8' hbx L1b L8b hK hg0' L2 K2 k9 y3 hfb hnbd hA
          go_wp2_with (first | (guard_target =~ wpList _ _ _ (Oper.mk _ (Op.store 91 (Operand.tmp 4) _) _ _ _ _ :: _) _ _; refine wpList_store_run rfl 91 (.tmp 4) (.tmp 79) rfl (by rfl) (by rfl) hst ?_) | (guard_target =~ wpList _ _ _ (Oper.mk _ (Op.load 91 _) _ _ _ _ :: _) _ _; refine wpList_load_run (by rfl) 91 (.tmp 8) (by rfl) (by rfl) hl8 ?_))
          refine bodyPost_ret (v := .tuple #[.agg #[.string (strOfNums nm), .int .i64 f, .int .i64 n, .int .i64 i], .bool true]) ?_ rfl ⟨by rw [hV3.out]; rfl, K3⟩
          rw [results_cell2 rfl]
          simp [asAddr, Result.andThen, hld]
end Tg
end Go.Proofs.YtjgnajopomadpaaGreat
