/-
  An entry read: sector, parse.
-/
import Derived.Test.YtjgnajopomadpaaGreatVa
namespace Go.Proofs.YtjgnajopomadpaaGreat
open Go.ChangeShapes Go.WideShapes Go.ChangeAt Go.RowKit
namespace Tg
open Qm Crc
theorem new53 (w : World) : Blk (w.alloc (.cells #[.string ⟨#[]⟩, .int .i64 0, .int .i64 0] 53)) w.heap.size 3 (trC En.z) :=
  blk_alloc w _ 53 3 _ (by intro k hk; rcases (by omega : k = 0 ∨ k = 1 ∨ k = 2) with rfl | rfl | rfl <;> rfl)
/-- A variable of an entry, written whole. -/
theorem store53v {w : World} {g : Nat} {y : En} (h : Blk w g 3 (trC y)) (x : En) : ∃ w', (Instr.storeAt 53 (.pointer (some ⟨g, 0, none⟩)) (.agg (trA x))).run Tryz.prog w = .ok () w' ∧ Blk w' g 3 (trC x) ∧ Keep (fun k => k = g) w w' := by
  obtain ⟨w', h1, h2, h3⟩ := store53 h (o := 0) (by omega) x
  exact ⟨w', h1, h2.congr (fun i hi => by rw [if_pos (by omega)]; rfl), h3⟩
theorem gcall57 (args : Array Value) (w : World) : (callFunc 57 args).run Tryz.prog w = .ok (.enter 57 args) w := enters Tryz.func57 (by kernel_rfl) (by kernel_rfl) args w
theorem gcall58 (args : Array Value) (w : World) : (callFunc 58 args).run Tryz.prog w = .ok (.enter 58 args) w := enters Tryz.func58 (by kernel_rfl) (by kernel_rfl) args w
set_option maxRecDepth 100000 in
theorem sector_any {s : ByteArray} (hs : s.size = 256) {i : Nat} (hi : i < 8) (w : World) : Calls Tryz.prog 31 #[.string s, .int .i64 (i : Int)] w fun e w' => e = .returned (.string (s.extract (i * 32) ((i + 1) * 32))) ∧ w' = w := by
  have w1 : IntKind.i64.wrap ((i : Int) + 1) = ((i + 1 : Nat) : Int) := by rw [show (i : Int) + 1 = ((i + 1 : Nat) : Int) by omega]; exact wrapI (by omega) (by omega)
  have w2 : IntKind.i64.wrap (((i + 1 : Nat) : Int) * 32) = (((i + 1) * 32 : Nat) : Int) := by rw [show ((i + 1 : Nat) : Int) * 32 = (((i + 1) * 32 : Nat) : Int) by omega]; exact wrapI (by omega) (by omega)
  have w3 : IntKind.i64.wrap ((((i + 1) * 32 : Nat) : Int) - 32) = ((i * 32 : Nat) : Int) := by rw [show (((i + 1) * 32 : Nat) : Int) - 32 = ((i * 32 : Nat) : Int) by omega]; exact wrapI (by omega) (by omega)
  have d1 : i * 32 ≤ (i + 1) * 32 := by omega
  have d2 : (i + 1) * 32 ≤ s.size := by omega
  have d3 : ¬ (256 : Int) < (((i + 1) * 32 : Nat) : Int) := by omega
  have hsl := str_cut d1 d2
  generalize s.extract (i * 32) ((i + 1) * 32) = R at *
  generalize i * 32 = A at *
  generalize hX : i + 1 = X at *
  generalize X * 32 = B at *
  clear hX hi
  go_enter Tryz.func31, Tryz.ntmps31
  go_wp2_with fail
  go_ret
  exact ⟨rfl, rfl⟩
/-- What an entry's sector tells. -/
def entV (N : Int) (b : List Int) (i : Int) : Option En := if entOk N b then some (entE b i) else none
set_option maxRecDepth 100000 in
set_option maxHeartbeats 4000000 in
theorem parse_any {b : List Int} (hb8 : B8 b) (hbl : b.length = 32) {N : Nat} (hN : N ≤ 512) (i : Int) (w : World) :
    Calls Tryz.prog 30 #[.string (strOfNums b), .int .i64 (N : Int)] w fun e w' => e = .returned (.tuple #[.agg (trA ((entV N b i).getD En.z)), .bool (entV N b i).isSome]) ∧ Keep (fun _ => False) w w' := by
  obtain ⟨V, hV⟩ : ∃ V, RowKit.Hid (V = entV N b i) := ⟨_, rfl⟩
  have hV2 : RowKit.Hid (V = if entOk N b then some (entE b i) else none) := hV
  rw [← hV.out]
  have hzb : (strOfNums b).size = 32 := by rw [strOfNums_size, hbl]
  obtain ⟨S, hS⟩ : ∃ S, S = strOfNums b := ⟨_, rfl⟩
  have hzS : S.size = 32 := by rw [hS]; exact hzb
  rw [← hS]
  have hg := fun k => getD_bound hb8 k
  obtain ⟨c1, hc1⟩ : ∃ c : Nat, b.getD 1 0 = (c : Int) := ⟨(b.getD 1 0).toNat, by have := (hg 1).1; omega⟩
  obtain ⟨c18, hc18⟩ : ∃ c : Nat, b.getD 18 0 = (c : Int) := ⟨(b.getD 18 0).toNat, by have := (hg 18).1; omega⟩
  obtain ⟨c19, hc19⟩ : ∃ c : Nat, b.getD 19 0 = (c : Int) := ⟨(b.getD 19 0).toNat, by have := (hg 19).1; omega⟩
  obtain ⟨c20, hc20⟩ : ∃ c : Nat, b.getD 20 0 = (c : Int) := ⟨(b.getD 20 0).toNat, by have := (hg 20).1; omega⟩
  obtain ⟨c21, hc21⟩ : ∃ c : Nat, b.getD 21 0 = (c : Int) := ⟨(b.getD 21 0).toNat, by have := (hg 21).1; omega⟩
  have b1 := hg 1; have b18 := hg 18; have b19 := hg 19; have b20 := hg 20; have b21 := hg 21
  rw [hc1] at b1; rw [hc18] at b18; rw [hc19] at b19; rw [hc20] at b20; rw [hc21] at b21
  have s1 : (S[1]'(by omega)).toNat = c1 := by subst hS; have := str_at hb8 (k := 1) (by omega); rw [hc1] at this; omega
  have s18 : (S[18]'(by omega)).toNat = c18 := by subst hS; have := str_at hb8 (k := 18) (by omega); rw [hc18] at this; omega
  have s19 : (S[19]'(by omega)).toNat = c19 := by subst hS; have := str_at hb8 (k := 19) (by omega); rw [hc19] at this; omega
  have s20 : (S[20]'(by omega)).toNat = c20 := by subst hS; have := str_at hb8 (k := 20) (by omega); rw [hc20] at this; omega
  have s21 : (S[21]'(by omega)).toNat = c21 := by subst hS; have := str_at hb8 (k := 21) (by omega); rw [hc21] at this; omega
  have hfe : (entE b i).f = (c18 : Int) + 256 * c19 := by unfold entE; rw [hc18, hc19]
  have hne : (entE b i).n = (c20 : Int) + 256 * c21 := by unfold entE; rw [hc20, hc21]
  have hnm : (entE b i).nm = (b.take (2 + c1)).drop 2 := by unfold entE; rw [hc1]; rfl
  have K1 : Keep (fun _ => False) w (w.alloc (.cells #[.string ⟨#[]⟩, .int .i64 0, .int .i64 0] 53)) := (Keep.refl _ _).alloc _
  have L1 := new53 w
  have w1' : IntKind.i64.wrap (c1 : Int) = c1 := wrapI (by omega) (by omega)
  by_cases h16 : c1 ≤ 16
  case neg =>
    have hV3 : RowKit.Hid (V = none) := by
      show _ = _
      rw [hV2.out]
      unfold entOk
      rw [hc1, decide_eq_false (by omega)]; rfl
    obtain ⟨w2, hst, L2, K2⟩ := store53v L1 En.z
    have K3 : RowKit.Hid (Keep (fun _ => False) w w2) := K1.next K2 (fun x hx e => by subst e; exact absurd hx (Nat.lt_irrefl _))
    have hld := loadVar53 L2
    have hA : trA En.z = #[.string ⟨#[]⟩, .int .i64 0, .int .i64 0] := rfl
    rw [hA] at hst hld
    have hbad : (16 : Int) < (c1 : Int) := by omega
    clear hV hV2 L1 L2 K1 K2 hg hS hzb hc18 hc19 hc20 hc21 hc1 hfe hne hnm hbl hb8 b18 b19 b20 b21 hA h16 s18 s19 s20 s21
    go_enter Tryz.func30, Tryz.ntmps30
    go_upto_region 2 with fail
    go_wp2_with (guard_target =~ wpList _ _ _ (Oper.mk _ (Op.store 53 (Operand.tmp 4) _) _ _ _ _ :: _) _ _; refine wpList_store_run rfl 53 (.tmp 4) (.tmp 16) rfl (by rfl) (by rfl) hst ?_)
    refine bodyPost_ret (v := .tuple #[.agg #[.string ⟨#[]⟩, .int .i64 0, .int .i64 0], .bool false]) ?_ rfl ⟨by rw [hV3.out]; rfl, K3⟩
    rw [results_cell2 rfl]
    simp [asAddr, Result.andThen, hld]
  case pos =>
    obtain ⟨nm, hnm2⟩ : ∃ x, x = (entE b i).nm := ⟨_, rfl⟩
    obtain ⟨f, hf2⟩ : ∃ x, x = (entE b i).f := ⟨_, rfl⟩
    obtain ⟨n, hn2⟩ : ∃ x, x = (entE b i).n := ⟨_, rfl⟩
    have hx : RowKit.Hid (entE b i = ⟨nm, f, n, i⟩) := by show _ = _; rw [hnm2, hf2, hn2]; rfl
    rw [← hnm2] at hnm
    rw [← hf2] at hfe
    rw [← hn2] at hne
    have hnb : B8 nm := by rw [hnm]; exact fun x hx => hb8 x (List.mem_of_mem_take (List.mem_of_mem_drop hx))
    have hnl : nm.length ≤ 16 := by rw [hnm]; simp; omega
    have hnc : nm.length = c1 := by rw [hnm]; simp; omega
    have hnS : S.extract 2 (2 + c1) = strOfNums nm := by rw [hS, str_extract, hnm]
    have hBy := fun w => ebytes_any (x := ⟨nm, f, n, i⟩) hnb hnl w
    have hcl := fun w => clone_any (strOfNums nm) w (by rw [strOfNums_size]; omega)
    have hGood := good_any (strOfNums nm) (by rw [strOfNums_size]; omega)
    obtain ⟨G, hG⟩ : ∃ G, G = goodS (bs (strOfNums nm)) := ⟨_, rfl⟩
    rw [← hG] at hGood
    obtain ⟨SB, hSB⟩ : ∃ x, x = strOfNums (bytesE nm f n) := ⟨_, rfl⟩
    replace hBy : ∀ w, Calls Tryz.prog 59 #[.agg #[.string (strOfNums nm), .int .i64 f, .int .i64 n]] w fun e w' => e = .returned (.string SB) ∧ Keep (fun _ => False) w w' := by rw [hSB]; exact hBy
    have hbb : B8 (bytesE nm f n) := bytesE_b8 hnb f n
    have hsb : decide (bytesE nm f n = b) = decide (SB = S) := by
      rw [decide_eq_decide, hSB, hS]
      exact ⟨fun e => by rw [e], fun e => str_inj hbb hb8 e⟩
    have hV3 : RowKit.Hid (V = if G && (decide (8 ≤ f) && (decide (1 ≤ n) && (decide (f + n ≤ N) && decide (SB = S)))) then some ⟨nm, f, n, i⟩ else none) := by
      show _ = _
      rw [hV2.out, hx.out]
      unfold entOk
      rw [← (entE_i b i).1, ← (entE_i b i).2.1, ← (entE_i b i).2.2, hx.out, hc1]
      show (if (_ && (goodS (bs (strOfNums nm)) && (decide (8 ≤ f) && (decide (1 ≤ n) && (decide (f + n ≤ N) && decide (bytesE nm f n = b)))))) = true then _ else _) = _
      rw [hsb, ← hG]
      by_cases c0 : c1 = 0
      · have : G = false := by
          have : nm = [] := List.eq_nil_of_length_eq_zero (by omega)
          rw [hG, this]; decide
        rw [this]; simp
      · rw [decide_eq_true (by omega), Bool.true_and]
    have hfb : 0 ≤ f ∧ f ≤ 65535 := by rw [hfe]; omega
    have hnbd : 0 ≤ n ∧ n ≤ 65535 := by rw [hne]; omega
    have hF : ∀ w', Calls Tryz.prog 58 #[.string (S.extract 18 20)] w' fun e w'' => e = .returned (.int .i64 f) ∧ w'' = w' := fun w' => by
      have hz : (S.extract 18 20).size = 2 := by rw [ByteArray.size_extract]; omega
      have := getnum_any hz (c0 := c18) (c1 := c19) (by rw [ByteArray.getElem_extract]; exact s18) (by rw [ByteArray.getElem_extract]; exact s19) w'
      rw [← hfe] at this
      exact this
    have hN2 : ∀ w', Calls Tryz.prog 58 #[.string (S.extract 20 22)] w' fun e w'' => e = .returned (.int .i64 n) ∧ w'' = w' := fun w' => by
      have hz : (S.extract 20 22).size = 2 := by rw [ByteArray.size_extract]; omega
      have := getnum_any hz (c0 := c20) (c1 := c21) (by rw [ByteArray.getElem_extract]; exact s20) (by rw [ByteArray.getElem_extract]; exact s21) w'
      rw [← hne] at this
      exact this
    have y3 := wrapI (x := (N : Int) - f) (by omega) (by omega)
    have m2 : ¬ 16 < (c1 : Int) := by omega
    have m3 : 2 + c1 ≤ S.size := by omega
    have hsl : ∀ w', (Instr.slice 9 (.string S) (some (.int .i64 2)) (some (.int .i64 ((2 + c1 : Nat) : Int))) none).run Tryz.prog w' = .ok (.string (strOfNums nm)) w' := fun w' => by have := str_cut (s := S) (a := 2) (b := 2 + c1) (by omega) m3 w'; rw [hnS] at this; exact this
    have x1 : IntKind.i64.wrap (2 + (c1 : Int)) = ((2 + c1 : Nat) : Int) := by rw [show 2 + (c1 : Int) = ((2 + c1 : Nat) : Int) by omega]; exact wrapI (by omega) (by omega)
    clear hV hV2 hg hS hzb hc18 hc19 hc20 hc21 hc1 hfe hne hnm hnb hbl hb8 hnm2 hf2 hn2 hG hSB hbb hsb hnl hx hnS b18 b19 b20 b21 hnc h16 s18 s19 s20 s21
    generalize hY : 2 + c1 = Y at *
    go_enter Tryz.func30, Tryz.ntmps30
    go_upto_region 3 with fail
    generalize w.alloc (.cells #[.string ⟨#[]⟩, .int .i64 0, .int .i64 0] 53) = w1 at *
    obtain ⟨g4, hg4⟩ : ∃ g, RowKit.Hid (g = w.heap.size) := ⟨_, rfl⟩
    rw [← hg4.out] at L1 ⊢
    have K1' : RowKit.Hid (Keep (fun _ => False) w w1) := K1
    have L1' : RowKit.Hid (Blk w1 g4 3 (trC En.z)) := L1
    have hl4 : RowKit.Hid (g4 < w1.heap.size) := L1.lt (by omega)
    clear L1 K1
    go_cut [6] from 7 to 60 (fun v wx => ∃ g6, v = .pointer (some ⟨g6, 0, none⟩) ∧ Blk wx g6 3 (trC ⟨nm, f, n, i⟩) ∧ Keep (fun _ => False) w1 wx ∧ w1.heap.size ≤ g6)
    case first =>
      clear hBy hGood hV3 hfb hnbd y3 m2 K1' L1' hl4 hg4
      refine wp_region_noPanic ?_
      refine wp_region_held_drew (S := fun w' => Keep (fun _ => False) w1 w') (by kernel_rfl) ((Keep.refl (fun _ => False) _).drew) (fun hH0 => ?_)
      refine tk 0 hH0 ?_
      refine tk 1 hH0 ?_
      refine tk 2 hH0 ?_
      refine tk 3 hH0 ?_
      refine tk 4 hH0 ?_
      refine tk 5 hH0 ?_
      refine tk 7 hH0 ?_
      refine tk 8 hH0 ?_
      refine tk 10 hH0 ?_
      refine tk 11 hH0 ?_
      refine rds (ar 6 (fun K hK => ?_) (ar 14 (fun K hK => ?_) AllReadyH.nil))
      · refine step_call_want (vs := #[.string (strOfNums nm)]) (R := fun v wz => v = .string (strOfNums nm) ∧ Keep (fun _ => False) w1.drew wz) (by rfl) 57 _ _ rfl (by simp [Act.eval]) gcall57 ((hcl w1.drew).mono (by rintro e wz ⟨rfl, k⟩; exact ⟨_, rfl, rfl, k⟩)) ?_
        rintro v wA1 ⟨rfl, kA1⟩
        refine hK.out _ _ ((((Keep.refl (fun _ => False) _).drew).trans kA1)) (fun hH1 => ?_)
        clear hK K
        simp only [Act.put, List.setIfInBounds_toArray, List.set_cons_zero, List.set_cons_succ]
        refine rds (ar 9 (fun K hK => ?_) (ar 14 (fun K hK => ?_) AllReadyH.nil))
        · refine step_call_want (vs := #[.string (S.extract 18 20)]) (R := fun v wz => v = .int .i64 f ∧ wz = wA1) (by rfl) 58 _ _ rfl (by simp [Act.eval]) gcall58 ((hF wA1).mono (by rintro e wz ⟨rfl, rfl⟩; exact ⟨_, rfl, rfl, rfl⟩)) ?_
          rintro v wz ⟨rfl, ez⟩
          have ez := ez.symm
          subst ez
          refine hK.out _ _ ((((Keep.refl (fun _ => False) _).drew).trans kA1)) (fun hH2 => ?_)
          clear hK K
          simp only [Act.put, List.setIfInBounds_toArray, List.set_cons_zero, List.set_cons_succ]
          refine rds (ar 12 (fun K hK => ?_) (ar 14 (fun K hK => ?_) AllReadyH.nil))
          · refine step_call_want (vs := #[.string (S.extract 20 22)]) (R := fun v wz => v = .int .i64 n ∧ wz = wA1) (by rfl) 58 _ _ rfl (by simp [Act.eval]) gcall58 ((hN2 wA1).mono (by rintro e wz ⟨rfl, rfl⟩; exact ⟨_, rfl, rfl, rfl⟩)) ?_
            rintro v wz ⟨rfl, ez⟩
            have ez := ez.symm
            subst ez
            refine hK.out _ _ ((((Keep.refl (fun _ => False) _).drew).trans kA1)) (fun hH3 => ?_)
            clear hK K
            simp only [Act.put, List.setIfInBounds_toArray, List.set_cons_zero, List.set_cons_succ]
            refine tk 13 hH3 ?_
            refine rd 14 (fun K hK => ?_)
            obtain ⟨wB4, hB4, bB4, kB4, lB4⟩ := alloc53 wA1
            have gB4 : w1.heap.size ≤ wA1.heap.size := (((Keep.refl (fun _ => False) _).drew).trans kA1).size
            generalize wA1.heap.size = g6 at hB4 bB4 lB4 gB4
            refine step_alloc_run (by rfl) 53 rfl hB4 ?_
            refine hK.out _ _ (((((Keep.refl (fun _ => False) _).drew).trans kA1).trans kB4)) (fun hH4 => ?_)
            clear hK K
            simp only [Act.put, List.setIfInBounds_toArray, List.set_cons_zero, List.set_cons_succ]
            refine rd 15 (fun K hK => ?_)
            obtain ⟨wC, hC, bC, kC⟩ := store53v (w := wB4) bB4 ⟨nm, f, n, i⟩
            have gC := gB4
            have KC : Keep (fun _ => False) w1 wC := ((((Keep.refl (fun _ => False) _).drew).trans kA1).trans kB4).next kC (fun y hy e => by subst e; omega)
            refine step_store_run (by rfl) 53 (.tmp 6) (.tmp 30) rfl (by rfl) (by rfl) hC ?_
            refine hK.out _ _ (KC) (fun hH5 => ?_)
            clear hK K
            simp only [Act.put]
            refine wpAnyH_done (by kernel_rfl) ?_ _
            refine NoPanic.normal ?_
            go_wp2_with fail
            go_meet
            exact ⟨_, rfl, bC, KC, gC⟩
          · obtain ⟨wB6, hB6, bB6, kB6, lB6⟩ := alloc53 wA1
            have gB6 : w1.heap.size ≤ wA1.heap.size := (((Keep.refl (fun _ => False) _).drew).trans kA1).size
            generalize wA1.heap.size = g6 at hB6 bB6 lB6 gB6
            refine step_alloc_run (by rfl) 53 rfl hB6 ?_
            refine hK.out _ _ (((((Keep.refl (fun _ => False) _).drew).trans kA1).trans kB6)) (fun hH6 => ?_)
            clear hK K
            simp only [Act.put, List.setIfInBounds_toArray, List.set_cons_zero, List.set_cons_succ]
            refine rd 12 (fun K hK => ?_)
            refine step_call_want (vs := #[.string (S.extract 20 22)]) (R := fun v wz => v = .int .i64 n ∧ wz = wB6) (by rfl) 58 _ _ rfl (by simp [Act.eval]) gcall58 ((hN2 wB6).mono (by rintro e wz ⟨rfl, rfl⟩; exact ⟨_, rfl, rfl, rfl⟩)) ?_
            rintro v wz ⟨rfl, ez⟩
            have ez := ez.symm
            subst ez
            refine hK.out _ _ (((((Keep.refl (fun _ => False) _).drew).trans kA1).trans kB6)) (fun hH7 => ?_)
            clear hK K
            simp only [Act.put, List.setIfInBounds_toArray, List.set_cons_zero, List.set_cons_succ]
            refine tk 13 hH7 ?_
            refine rd 15 (fun K hK => ?_)
            obtain ⟨wC, hC, bC, kC⟩ := store53v (w := wB6) bB6 ⟨nm, f, n, i⟩
            have gC := gB6
            have KC : Keep (fun _ => False) w1 wC := ((((Keep.refl (fun _ => False) _).drew).trans kA1).trans kB6).next kC (fun y hy e => by subst e; omega)
            refine step_store_run (by rfl) 53 (.tmp 6) (.tmp 30) rfl (by rfl) (by rfl) hC ?_
            refine hK.out _ _ (KC) (fun hH8 => ?_)
            clear hK K
            simp only [Act.put]
            refine wpAnyH_done (by kernel_rfl) ?_ _
            refine NoPanic.normal ?_
            go_wp2_with fail
            go_meet
            exact ⟨_, rfl, bC, KC, gC⟩
        · obtain ⟨wB9, hB9, bB9, kB9, lB9⟩ := alloc53 wA1
          have gB9 : w1.heap.size ≤ wA1.heap.size := (((Keep.refl (fun _ => False) _).drew).trans kA1).size
          generalize wA1.heap.size = g6 at hB9 bB9 lB9 gB9
          refine step_alloc_run (by rfl) 53 rfl hB9 ?_
          refine hK.out _ _ (((((Keep.refl (fun _ => False) _).drew).trans kA1).trans kB9)) (fun hH9 => ?_)
          clear hK K
          simp only [Act.put, List.setIfInBounds_toArray, List.set_cons_zero, List.set_cons_succ]
          refine rd 9 (fun K hK => ?_)
          refine step_call_want (vs := #[.string (S.extract 18 20)]) (R := fun v wz => v = .int .i64 f ∧ wz = wB9) (by rfl) 58 _ _ rfl (by simp [Act.eval]) gcall58 ((hF wB9).mono (by rintro e wz ⟨rfl, rfl⟩; exact ⟨_, rfl, rfl, rfl⟩)) ?_
          rintro v wz ⟨rfl, ez⟩
          have ez := ez.symm
          subst ez
          refine hK.out _ _ (((((Keep.refl (fun _ => False) _).drew).trans kA1).trans kB9)) (fun hH10 => ?_)
          clear hK K
          simp only [Act.put, List.setIfInBounds_toArray, List.set_cons_zero, List.set_cons_succ]
          refine rd 12 (fun K hK => ?_)
          refine step_call_want (vs := #[.string (S.extract 20 22)]) (R := fun v wz => v = .int .i64 n ∧ wz = wB9) (by rfl) 58 _ _ rfl (by simp [Act.eval]) gcall58 ((hN2 wB9).mono (by rintro e wz ⟨rfl, rfl⟩; exact ⟨_, rfl, rfl, rfl⟩)) ?_
          rintro v wz ⟨rfl, ez⟩
          have ez := ez.symm
          subst ez
          refine hK.out _ _ (((((Keep.refl (fun _ => False) _).drew).trans kA1).trans kB9)) (fun hH11 => ?_)
          clear hK K
          simp only [Act.put, List.setIfInBounds_toArray, List.set_cons_zero, List.set_cons_succ]
          refine tk 13 hH11 ?_
          refine rd 15 (fun K hK => ?_)
          obtain ⟨wC, hC, bC, kC⟩ := store53v (w := wB9) bB9 ⟨nm, f, n, i⟩
          have gC := gB9
          have KC : Keep (fun _ => False) w1 wC := ((((Keep.refl (fun _ => False) _).drew).trans kA1).trans kB9).next kC (fun y hy e => by subst e; omega)
          refine step_store_run (by rfl) 53 (.tmp 6) (.tmp 30) rfl (by rfl) (by rfl) hC ?_
          refine hK.out _ _ (KC) (fun hH12 => ?_)
          clear hK K
          simp only [Act.put]
          refine wpAnyH_done (by kernel_rfl) ?_ _
          refine NoPanic.normal ?_
          go_wp2_with fail
          go_meet
          exact ⟨_, rfl, bC, KC, gC⟩
      · obtain ⟨wB13, hB13, bB13, kB13, lB13⟩ := alloc53 w1.drew
        have gB13 : w1.heap.size ≤ w1.drew.heap.size := ((Keep.refl (fun _ => False) _).drew).size
        generalize w1.drew.heap.size = g6 at hB13 bB13 lB13 gB13
        refine step_alloc_run (by rfl) 53 rfl hB13 ?_
        refine hK.out _ _ ((((Keep.refl (fun _ => False) _).drew).trans kB13)) (fun hH13 => ?_)
        clear hK K
        simp only [Act.put, List.setIfInBounds_toArray, List.set_cons_zero, List.set_cons_succ]
        refine rd 6 (fun K hK => ?_)
        refine step_call_want (vs := #[.string (strOfNums nm)]) (R := fun v wz => v = .string (strOfNums nm) ∧ Keep (fun _ => False) wB13 wz) (by rfl) 57 _ _ rfl (by simp [Act.eval]) gcall57 ((hcl wB13).mono (by rintro e wz ⟨rfl, k⟩; exact ⟨_, rfl, rfl, k⟩)) ?_
        rintro v wA14 ⟨rfl, kA14⟩
        refine hK.out _ _ (((((Keep.refl (fun _ => False) _).drew).trans kB13).trans kA14)) (fun hH14 => ?_)
        clear hK K
        simp only [Act.put, List.setIfInBounds_toArray, List.set_cons_zero, List.set_cons_succ]
        refine rd 9 (fun K hK => ?_)
        refine step_call_want (vs := #[.string (S.extract 18 20)]) (R := fun v wz => v = .int .i64 f ∧ wz = wA14) (by rfl) 58 _ _ rfl (by simp [Act.eval]) gcall58 ((hF wA14).mono (by rintro e wz ⟨rfl, rfl⟩; exact ⟨_, rfl, rfl, rfl⟩)) ?_
        rintro v wz ⟨rfl, ez⟩
        have ez := ez.symm
        subst ez
        refine hK.out _ _ (((((Keep.refl (fun _ => False) _).drew).trans kB13).trans kA14)) (fun hH15 => ?_)
        clear hK K
        simp only [Act.put, List.setIfInBounds_toArray, List.set_cons_zero, List.set_cons_succ]
        refine rd 12 (fun K hK => ?_)
        refine step_call_want (vs := #[.string (S.extract 20 22)]) (R := fun v wz => v = .int .i64 n ∧ wz = wA14) (by rfl) 58 _ _ rfl (by simp [Act.eval]) gcall58 ((hN2 wA14).mono (by rintro e wz ⟨rfl, rfl⟩; exact ⟨_, rfl, rfl, rfl⟩)) ?_
        rintro v wz ⟨rfl, ez⟩
        have ez := ez.symm
        subst ez
        refine hK.out _ _ (((((Keep.refl (fun _ => False) _).drew).trans kB13).trans kA14)) (fun hH16 => ?_)
        clear hK K
        simp only [Act.put, List.setIfInBounds_toArray, List.set_cons_zero, List.set_cons_succ]
        refine tk 13 hH16 ?_
        refine rd 15 (fun K hK => ?_)
        obtain ⟨wC, hC, bC, kC⟩ := store53v (w := wA14) (bB13.keep kA14 (fun e => e)) ⟨nm, f, n, i⟩
        have gC := gB13
        have KC : Keep (fun _ => False) w1 wC := ((((Keep.refl (fun _ => False) _).drew).trans kB13).trans kA14).next kC (fun y hy e => by subst e; omega)
        refine step_store_run (by rfl) 53 (.tmp 6) (.tmp 30) rfl (by rfl) (by rfl) hC ?_
        refine hK.out _ _ (KC) (fun hH17 => ?_)
        clear hK K
        simp only [Act.put]
        refine wpAnyH_done (by kernel_rfl) ?_ _
        refine NoPanic.normal ?_
        go_wp2_with fail
        go_meet
        exact ⟨_, rfl, bC, KC, gC⟩
    case rest =>
      obtain ⟨g6, rfl, b6, k6, ge6⟩ := hcut
      have L6 : RowKit.Hid (Blk wc g6 3 (trC ⟨nm, f, n, i⟩)) := b6
      have L4 : RowKit.Hid (Blk wc g4 3 (trC En.z)) := L1'.out.keep k6 (fun e => e)
      have K4 : RowKit.Hid (Keep (fun _ => False) w wc) := K1'.out.trans k6
      have z0 : wc.cell? ⟨g6, 0, none⟩ = some (.string (strOfNums nm)) := (b6 0 (by omega)).1
      clear b6 k6 hcl hF hN2 hsl x1 m3 hY
      go_wp2_with fail
      refine (hGood wc).mono ?_
      rintro e w4 ⟨rfl, k4⟩
      replace L6 : RowKit.Hid (Blk w4 g6 3 (trC ⟨nm, f, n, i⟩)) := L6.out.keep k4 (fun e => e)
      replace L4 : RowKit.Hid (Blk w4 g4 3 (trC En.z)) := L4.out.keep k4 (fun e => e)
      replace K4 : RowKit.Hid (Keep (fun _ => False) w w4) := K4.out.trans k4
      clear z0 k4 hGood ge6
      have z0 : w4.cell? ⟨g6, 0, none⟩ = some (.string (strOfNums nm)) := (L6.out 0 (by omega)).1
      have z1 : w4.cell? ⟨g6, 1, none⟩ = some (.int .i64 f) := (L6.out 1 (by omega)).1
      have z2 : w4.cell? ⟨g6, 2, none⟩ = some (.int .i64 n) := (L6.out 2 (by omega)).1
      cases G with
      | false =>
        have hV4 : RowKit.Hid (V = none) := by show _ = _; rw [hV3.out]; simp
        obtain ⟨w9, hst, L9, K9⟩ := store53v L4.out En.z
        have K3 : RowKit.Hid (Keep (fun _ => False) w w9) := K4.out.next K9 (fun x hx e => by subst e; have := hg4.out; omega)
        have hld := loadVar53 L9
        have hA : trA En.z = #[.string ⟨#[]⟩, .int .i64 0, .int .i64 0] := rfl
        rw [hA] at hst hld
        clear hV3 hBy L9 K9 hA L4 L6 K4 hg4 hl4 K1' L1'
        go_wp2_with (guard_target =~ wpList _ _ _ (Oper.mk _ (Op.store 53 (Operand.tmp 4) _) _ _ _ _ :: _) _ _; refine wpList_store_run rfl 53 (.tmp 4) (.tmp 54) rfl (by rfl) (by rfl) hst ?_)
        refine bodyPost_ret (v := .tuple #[.agg #[.string ⟨#[]⟩, .int .i64 0, .int .i64 0], .bool false]) ?_ rfl ⟨by rw [hV4.out]; rfl, K3⟩
        rw [results_cell2 rfl]
        simp [asAddr, Result.andThen, hld]
      | true =>
        by_cases c8 : f < 8
        · have hV4 : RowKit.Hid (V = none) := by show _ = _; rw [hV3.out, decide_eq_false (by omega : ¬ 8 ≤ f)]; simp
          obtain ⟨w9, hst, L9, K9⟩ := store53v L4.out En.z
          have K3 : RowKit.Hid (Keep (fun _ => False) w w9) := K4.out.next K9 (fun x hx e => by subst e; have := hg4.out; omega)
          have hld := loadVar53 L9
          have hA : trA En.z = #[.string ⟨#[]⟩, .int .i64 0, .int .i64 0] := rfl
          rw [hA] at hst hld
          clear hV3 hBy L9 K9 hA L4 L6 K4 hg4 hl4 K1' L1'
          go_wp2_with (guard_target =~ wpList _ _ _ (Oper.mk _ (Op.store 53 (Operand.tmp 4) _) _ _ _ _ :: _) _ _; refine wpList_store_run rfl 53 (.tmp 4) (.tmp 54) rfl (by rfl) (by rfl) hst ?_)
          refine bodyPost_ret (v := .tuple #[.agg #[.string ⟨#[]⟩, .int .i64 0, .int .i64 0], .bool false]) ?_ rfl ⟨by rw [hV4.out]; rfl, K3⟩
          rw [results_cell2 rfl]
          simp [asAddr, Result.andThen, hld]
        · by_cases cn : n < 1
          · have hV4 : RowKit.Hid (V = none) := by show _ = _; rw [hV3.out, decide_eq_false (by omega : ¬ 1 ≤ n)]; simp
            obtain ⟨w9, hst, L9, K9⟩ := store53v L4.out En.z
            have K3 : RowKit.Hid (Keep (fun _ => False) w w9) := K4.out.next K9 (fun x hx e => by subst e; have := hg4.out; omega)
            have hld := loadVar53 L9
            have hA : trA En.z = #[.string ⟨#[]⟩, .int .i64 0, .int .i64 0] := rfl
            rw [hA] at hst hld
            clear hV3 hBy L9 K9 hA L4 L6 K4 hg4 hl4 K1' L1'
            go_wp2_with (guard_target =~ wpList _ _ _ (Oper.mk _ (Op.store 53 (Operand.tmp 4) _) _ _ _ _ :: _) _ _; refine wpList_store_run rfl 53 (.tmp 4) (.tmp 54) rfl (by rfl) (by rfl) hst ?_)
            refine bodyPost_ret (v := .tuple #[.agg #[.string ⟨#[]⟩, .int .i64 0, .int .i64 0], .bool false]) ?_ rfl ⟨by rw [hV4.out]; rfl, K3⟩
            rw [results_cell2 rfl]
            simp [asAddr, Result.andThen, hld]
          · by_cases cf : (N : Int) - f < n
            · have hV4 : RowKit.Hid (V = none) := by show _ = _; rw [hV3.out, decide_eq_false (by omega : ¬ f + n ≤ N)]; simp
              obtain ⟨w9, hst, L9, K9⟩ := store53v L4.out En.z
              have K3 : RowKit.Hid (Keep (fun _ => False) w w9) := K4.out.next K9 (fun x hx e => by subst e; have := hg4.out; omega)
              have hld := loadVar53 L9
              have hA : trA En.z = #[.string ⟨#[]⟩, .int .i64 0, .int .i64 0] := rfl
              rw [hA] at hst hld
              clear hV3 hBy L9 K9 hA L4 L6 K4 hg4 hl4 K1' L1'
              go_wp2_with (guard_target =~ wpList _ _ _ (Oper.mk _ (Op.store 53 (Operand.tmp 4) _) _ _ _ _ :: _) _ _; refine wpList_store_run rfl 53 (.tmp 4) (.tmp 54) rfl (by rfl) (by rfl) hst ?_)
              refine bodyPost_ret (v := .tuple #[.agg #[.string ⟨#[]⟩, .int .i64 0, .int .i64 0], .bool false]) ?_ rfl ⟨by rw [hV4.out]; rfl, K3⟩
              rw [results_cell2 rfl]
              simp [asAddr, Result.andThen, hld]
            · have hl6 : (Instr.loadAt 53 (.pointer (some ⟨g6, 0, none⟩))).run Tryz.prog w4 = .ok (.agg #[.string (strOfNums nm), .int .i64 f, .int .i64 n]) w4 := load53 L6.out
              replace hV3 : RowKit.Hid (V = if decide (SB = S) then some ⟨nm, f, n, i⟩ else none) := by
                show _ = _
                rw [hV3.out, decide_eq_true (by omega : 8 ≤ f), decide_eq_true (by omega : 1 ≤ n), decide_eq_true (by omega : f + n ≤ N)]; simp
              go_upto_region 6 with fail
              go_wp2_with (guard_target =~ wpList _ _ _ (Oper.mk _ (Op.load 53 _) _ _ _ _ :: _) _ _; refine wpList_load_run (by rfl) 53 (.tmp 6) rfl (by rfl) hl6 ?_)
              refine (hBy w4).mono ?_
              rintro e w5 ⟨rfl, k5⟩
              replace L6 : RowKit.Hid (Blk w5 g6 3 (trC ⟨nm, f, n, i⟩)) := L6.out.keep k5 (fun e => e)
              replace L4 : RowKit.Hid (Blk w5 g4 3 (trC En.z)) := L4.out.keep k5 (fun e => e)
              replace K4 : RowKit.Hid (Keep (fun _ => False) w w5) := K4.out.trans k5
              clear z0 z1 z2 k5 hl6
              have hcmp := ba_eq SB S
              by_cases cs : SB = S
              · have q : (SB.toList == S.toList) = true := by rw [hcmp, decide_eq_true cs]
                have hV4 : RowKit.Hid (V = some ⟨nm, f, n, i⟩) := by show _ = _; rw [hV3.out, decide_eq_true cs]; rfl
                have hl6 : (Instr.loadAt 53 (.pointer (some ⟨g6, 0, none⟩))).run Tryz.prog w5 = .ok (.agg #[.string (strOfNums nm), .int .i64 f, .int .i64 n]) w5 := load53 L6.out
                obtain ⟨w9, hst, L9, K9⟩ := store53v L4.out ⟨nm, f, n, i⟩
                have K3 : RowKit.Hid (Keep (fun _ => False) w w9) := K4.out.next K9 (fun x hx e => by subst e; have := hg4.out; omega)
                have hld := loadVar53 L9
                have hA : trA ⟨nm, f, n, i⟩ = #[.string (strOfNums nm), .int .i64 f, .int .i64 n] := rfl
                rw [hA] at hst hld
                clear hV3 hBy L9 K9 hA L4 L6 K4 hg4 hl4 K1' L1' cs hcmp
                go_wp2_with (first | (guard_target =~ wpList _ _ _ (Oper.mk _ (Op.store 53 (Operand.tmp 4) _) _ _ _ _ :: _) _ _; refine wpList_store_run rfl 53 (.tmp 4) (.tmp 60) rfl (by rfl) (by rfl) hst ?_) | (guard_target =~ wpList _ _ _ (Oper.mk _ (Op.load 53 _) _ _ _ _ :: _) _ _; refine wpList_load_run (by rfl) 53 (.tmp 6) (by rfl) (by rfl) hl6 ?_))
                refine bodyPost_ret (v := .tuple #[.agg #[.string (strOfNums nm), .int .i64 f, .int .i64 n], .bool true]) ?_ rfl ⟨by rw [hV4.out]; rfl, K3⟩
                rw [results_cell2 rfl]
                simp [asAddr, Result.andThen, hld]
              · have q : (SB.toList == S.toList) = false := by rw [hcmp, decide_eq_false cs]
                have hV4 : RowKit.Hid (V = none) := by show _ = _; rw [hV3.out, decide_eq_false cs]; simp
                obtain ⟨w9, hst, L9, K9⟩ := store53v L4.out En.z
                have K3 : RowKit.Hid (Keep (fun _ => False) w w9) := K4.out.next K9 (fun x hx e => by subst e; have := hg4.out; omega)
                have hld := loadVar53 L9
                have hA : trA En.z = #[.string ⟨#[]⟩, .int .i64 0, .int .i64 0] := rfl
                rw [hA] at hst hld
                clear cs hcmp hV3 hBy L9 K9 hA L4 L6 K4 hg4 hl4 K1' L1'
                go_wp2_with (guard_target =~ wpList _ _ _ (Oper.mk _ (Op.store 53 (Operand.tmp 4) _) _ _ _ _ :: _) _ _; refine wpList_store_run rfl 53 (.tmp 4) (.tmp 59) rfl (by rfl) (by rfl) hst ?_)
                refine bodyPost_ret (v := .tuple #[.agg #[.string ⟨#[]⟩, .int .i64 0, .int .i64 0], .bool false]) ?_ rfl ⟨by rw [hV4.out]; rfl, K3⟩
                rw [results_cell2 rfl]
                simp [asAddr, Result.andThen, hld]
end Tg
end Go.Proofs.YtjgnajopomadpaaGreat
