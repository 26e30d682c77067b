/-
  The chapter's examples; VolKnown, VolNames, given what a store's calls answer.
-/
import Derived.Test.YtjgnajopomadpaaGreatRb
import Derived.Laws.StructEq
namespace Go.Proofs.YtjgnajopomadpaaGreat
open Go.ChangeShapes Go.WideShapes Go.ChangeAt Go.RowKit
namespace Tg
open Qm Crc
theorem create_ok {N : Nat} {l : List Int} {s : Nat → Option En} {nm : ByteArray} {n : Int} {a : Nat} {j : Int} (hg : goodS (bs nm) = true) (hn : 1 ≤ n ∧ n ≤ 512) (hv : (volOf (lst s) nm).isSome = false) (hr : roomL N (lst s) n.toNat = some (a, j)) :
    createS N l s nm n = ⟨wrL (wrL l a n.toNat []) j.toNat 1 (bytesE (nums nm) a n), upd s j.toNat (some ⟨nums nm, a, n, j⟩), 0⟩ := by
  unfold createS
  rw [if_neg (by rw [hg]; simp; omega), hv, if_neg (by simp), hr]
theorem create_arg {N : Nat} {l : List Int} {s : Nat → Option En} {nm : ByteArray} {n : Int} (h : goodS (bs nm) = false ∨ n < 1 ∨ 512 < n) : createS N l s nm n = ⟨l, s, 1⟩ := by
  unfold createS
  rw [if_pos h]
theorem create_has {N : Nat} {l : List Int} {s : Nat → Option En} {nm : ByteArray} {n : Int} (hg : goodS (bs nm) = true) (hn : 1 ≤ n ∧ n ≤ 512) (hv : (volOf (lst s) nm).isSome = true) : createS N l s nm n = ⟨l, s, 8⟩ := by
  unfold createS
  rw [if_neg (by rw [hg]; simp; omega), hv, if_pos rfl]
theorem create_full {N : Nat} {l : List Int} {s : Nat → Option En} {nm : ByteArray} {n : Int} (hg : goodS (bs nm) = true) (hn : 1 ≤ n ∧ n ≤ 512) (hv : (volOf (lst s) nm).isSome = false) (hr : roomL N (lst s) n.toNat = none) : createS N l s nm n = ⟨l, s, 5⟩ := by
  unfold createS
  rw [if_neg (by rw [hg]; simp; omega), hv, if_neg (by simp), hr]
def nA : ByteArray := ⟨#[97]⟩
def nB : ByteArray := ⟨#[98]⟩
def nC : ByteArray := ⟨#[99]⟩
def nZ : ByteArray := ⟨#[122]⟩
def nE : ByteArray := ⟨#[195, 169]⟩
def nY : ByteArray := ⟨#[120, 32, 121]⟩
def z20 : List Int := List.replicate (20 * 32) 0
def s0 : Nat → Option En := fun _ => none
def s1 := upd s0 0 (some ⟨nums nA, 8, 4, 0⟩)
def s2 := upd s1 1 (some ⟨nums nB, 12, 6, 1⟩)
def s4 := upd s2 1 none
def s5 := upd s4 1 (some ⟨nums nE, 12, 4, 1⟩)
def l1 := wrL (wrL z20 8 4 []) 0 1 (bytesE (nums nA) 8 4)
def l2 := wrL (wrL l1 12 6 []) 1 1 (bytesE (nums nB) 12 6)
def l3 := wrL l2 8 1 (nums ⟨#[104, 105]⟩)
def l4 := wrL l3 1 1 []
def l5 := wrL (wrL l4 12 4 (rdL l4 8 4)) 1 1 (bytesE (nums nE) 12 4)
theorem v0 : volL 20 z20 = [] := by decide +kernel
theorem plc0 : plc 20 z20 = s0 := by
  funext i
  unfold plc
  have : volL 20 z20 = [] := v0
  rw [this]
  rfl
theorem gA : goodS (bs nA) = true := by decide +kernel
theorem gB : goodS (bs nB) = true := by decide +kernel
theorem gC : goodS (bs nC) = true := by decide +kernel
theorem gE : goodS (bs nE) = true := by decide +kernel
theorem k1 : createS 20 z20 s0 nA 4 = ⟨l1, s1, 0⟩ := create_ok (a := 8) (j := 0) gA (by decide) (by decide +kernel) (by decide +kernel)
theorem k2 : createS 20 l1 s1 nB 6 = ⟨l2, s2, 0⟩ := create_ok (a := 12) (j := 1) gB (by decide) (by decide +kernel) (by decide +kernel)
theorem k3 : writeS l2 s2 nA 0 1 ⟨#[104, 105]⟩ = ⟨l3, s2, 0⟩ := by
  have : placeS s2 nA 0 1 = (8, 0) := by decide +kernel
  unfold writeS
  rw [this]
  rfl
theorem e2a : volOf (lst s2) nA = some ⟨nums nA, 8, 4, 0⟩ := rfl
theorem e2b : volOf (lst s2) nB = some ⟨nums nB, 12, 6, 1⟩ := rfl
theorem e4a : volOf (lst s4) nA = some ⟨nums nA, 8, 4, 0⟩ := rfl
theorem e5a : volOf (lst s5) nA = some ⟨nums nA, 8, 4, 0⟩ := rfl
theorem k4 : deleteS l3 s2 nB = ⟨l4, s4, 0⟩ := by unfold deleteS; rw [e2b]; rfl
theorem k5 : cloneS 20 l4 s4 nA nE = ⟨l5, s5, 0⟩ := by
  have h1 : (volOf (lst s4) nE).isSome = false := by decide +kernel
  have h2 : roomL 20 (lst s4) (4 : Int).toNat = some (12, 1) := by decide +kernel
  unfold cloneS
  rw [e4a]
  simp only []
  rw [gE, if_neg (by decide), h1, if_neg (by decide), h2]
  rfl
theorem k6 : readS l5 s5 nE 0 1 = (rdL l5 12 1, 0) := by
  have : placeS s5 nE 0 1 = (12, 0) := by decide +kernel
  unfold readS
  rw [this]
  rfl
theorem k7 : (renameS l5 s5 nA nB).e = 0 := by
  have h1 : (volOf (lst s5) nB).isSome = false := by decide +kernel
  unfold renameS
  rw [e5a]
  show (if goodS (bs nB) = false then _ else if (volOf (lst s5) nB).isSome then _ else _ : Rs).e = _
  rw [gB, if_neg (by decide), h1, if_neg (by decide)]
theorem size53 : (Tryz.prog.info? 53).map (·.size) = some 3 := by kernel_rfl
theorem under53 : ∃ d, Tryz.prog.underlying 53 = some d ∧ d.isRow = true := ⟨_, Tryz.underlying53, rfl⟩
theorem load53_at {w : World} {g o : Nat} {v0 v1 v2 : Value} (c0 : w.cell? ⟨g, o, none⟩ = some v0) (c1 : w.cell? ⟨g, o + 1, none⟩ = some v1) (c2 : w.cell? ⟨g, o + 2, none⟩ = some v2) :
    (Instr.loadAt 53 (.pointer (some ⟨g, o, none⟩))).run Tryz.prog w = .ok (.agg #[v0, v1, v2]) w := by
  obtain ⟨t, h1, h2⟩ := under53
  have := run_loadAt_mid (P := Tryz.prog) w g o 53 [v0, v1, v2] t (fun j v hv => by
    have hj : j < 3 := (List.getElem?_eq_some_iff.1 hv).1
    rcases (by omega : j = 0 ∨ j = 1 ∨ j = 2) with rfl | rfl | rfl
    · rw [← hv]; exact c0
    · rw [← hv]; exact c1
    · rw [← hv]; exact c2) h1 h2 (by rw [size53]; rfl)
  simpa using this
theorem eq53 (w : World) : (binOp .eql 53 (.agg #[.string nB, .int .i64 12, .int .i64 6]) (.agg #[.string ⟨#[98]⟩, .int .i64 12, .int .i64 6])).run Tryz.prog w = .ok (.bool true) w := by kernel_rfl
theorem x1 : (rdL l5 12 1).take 3 = [104, 105, 0] := by decide +kernel
theorem x2 : ((strOfNums (rdL l5 12 1)).extract 0 3).toList = [104, 105, 0] := by decide +kernel
theorem x3 : lensF (lst s2) = 10 := by decide +kernel
theorem x4 : (strOfNums (rdL l5 12 1)).size = 32 := by rw [strOfNums_size]; decide +kernel
theorem sz : nA.size ≤ 9223372036854775807 ∧ nB.size ≤ 9223372036854775807 ∧ nC.size ≤ 9223372036854775807 ∧ nZ.size ≤ 9223372036854775807 ∧ nE.size ≤ 9223372036854775807 ∧ nY.size ≤ 9223372036854775807 := by decide +kernel
theorem i64 (n : Int) (h : -1000 ≤ n ∧ n ≤ 1000 := by decide) : I64 n := by unfold I64; omega
section
variable {SV : (Nat → Prop) → World → Nat → Nat → Nat → List Int → (Nat → Option En) → Prop}
set_option maxRecDepth 100000 in
set_option maxHeartbeats 4000000 in
theorem awake25 (H : StOk SV) (w : World) : Calls Tryz.prog 8 #[] w fun e w' => e = .returned (.bool true) ∧ Keep (fun _ => False) w w' := by
  have c1 := new_yes w (n := 20) (by omega) (by omega)
  go_enter Tryz.func8, Tryz.ntmps8
  go_wp2_with fail
  refine c1.mono ?_
  rintro e w1 ⟨p, S, rfl, ⟨g, cap, hA, hS⟩, hlo, K1⟩
  have hp : w.heap.size ≤ p ∧ w.heap.size ≤ g := ⟨hlo p ((hS p).2 (Or.inl rfl)), hlo g ((hS g).2 (Or.inr rfl))⟩
  have c2 := vf_open H hA hp K1 (N := 20) (by rw [List.length_replicate]) (by omega)
  rw [show plc (20 : Nat) (List.replicate (20 * 32) 0) = s0 from plc0] at c2
  clear c1 hS hlo hp hA K1
  go_wp2_with fail
  refine c2.mono ?_
  rintro e w2 ⟨q, rfl, V2, -⟩
  have c3 := vf_create H V2 nA 4 sz.1 (i64 4)
  rw [show createS 20 (List.replicate (20 * 32) 0) s0 nA 4 = ⟨l1, s1, 0⟩ from k1] at c3
  clear c2 V2
  go_wp2_with fail
  refine c3.mono ?_
  rintro e w3 ⟨rfl, V3, -⟩
  have c4 := vf_create H V3 nB 6 sz.2.1 (i64 6)
  rw [k2] at c4
  clear c3 V3
  go_wp2_with fail
  refine c4.mono ?_
  rintro e w4 ⟨rfl, V4, -⟩
  have V4 : Vf SV (fun _ => False) w w4 q p 20 l2 s2 := V4
  have c5 := vf_vols H V4
  clear c4
  go_wp2_with fail
  refine c5.mono ?_
  rintro e w5 ⟨a, c, n, rfl, hn, R5⟩
  have V5 := V4.hold H R5.keep (G' := fun x => w4.heap.size ≤ x ∧ x < w5.heap.size) (fun x h => Or.inr h)
  have c6 := vf_free H V5
  rw [show ((20 : Nat) : Int) - 8 - lensF (lst s2) = 2 by rw [x3]; rfl] at c6
  have hn2 : n = 2 := hn
  subst hn2
  have hz := Gw.rd R5
  clear c5 V4 hn
  go_wp2_with fail
  refine c6.mono ?_
  rintro e w6 ⟨rfl, V6, K6⟩
  have c7 := vf_write H V6 nA 0 1 ⟨#[104, 105]⟩ sz.1 (i64 0) (i64 1) (by decide)
  rw [k3] at c7
  clear c6 V5
  go_wp2_with fail
  refine c7.mono ?_
  rintro e w7 ⟨rfl, V7, K7⟩
  have c8 := vf_delete H V7 nB sz.2.1
  rw [show deleteS (Rs.mk l3 s2 0).l (Rs.mk l3 s2 0).s nB = ⟨l4, s4, 0⟩ from k4] at c8
  clear c7 V6
  go_wp2_with fail
  refine c8.mono ?_
  rintro e w8 ⟨rfl, V8, K8⟩
  have c9 := vf_clone H V8 nA nE sz.1 sz.2.2.2.2.1
  rw [show cloneS 20 (Rs.mk l4 s4 0).l (Rs.mk l4 s4 0).s nA nE = ⟨l5, s5, 0⟩ from k5] at c9
  clear c8 V7
  go_wp2_with fail
  refine c9.mono ?_
  rintro e w9 ⟨rfl, V9, K9⟩
  have c10 := vf_read H V9 nE 0 1 sz.2.2.2.2.1 (i64 0) (i64 1)
  rw [show readS (Rs.mk l5 s5 0).l (Rs.mk l5 s5 0).s nE 0 1 = (rdL l5 12 1, 0) from k6] at c10
  clear c9 V8
  have y1 := x2
  have y2 := x4
  generalize strOfNums (rdL l5 12 1) = X at *
  go_wp2_with fail
  refine c10.mono ?_
  rintro e w10 ⟨rfl, V10, K10⟩
  have c11 := vf_rename H V10 nA nB sz.1 sz.2.1
  rw [show (renameS (Rs.mk l5 s5 0).l (Rs.mk l5 s5 0).s nA nB).e = 0 from k7] at c11
  clear c10 V9
  go_wp2_with fail
  refine c11.mono ?_
  rintro e w11 ⟨rfl, V11, K11⟩
  have KK := V11.kp
  have hz11 : Rd w11 a (vCs (lst s2)) := by
    refine hz.imp id ?_
    rintro ⟨b, o, rfl, hc⟩
    refine ⟨b, o, rfl, fun j u hu => ?_⟩
    have h5 := hc j u hu
    have hb : w4.heap.size ≤ b ∧ b < w5.heap.size := by
      refine ⟨?_, World.block_lt_of_cell? w5 _ h5⟩
      rcases R5.own.2 with ⟨e, -⟩ | ⟨g', c', cur, e, hb, -⟩
      · cases e
      · injection e with e; injection e with e; injection e with e; subst e; exact hb
    have step : ∀ {wa wb : World} {T : Nat → Prop}, Keep T wa wb → ¬ T b → wa.cell? ⟨b, o + j, none⟩ = some u → wb.cell? ⟨b, o + j, none⟩ = some u := fun k ht h => by
      rw [← h]
      exact World.cell?_of_block (a := ⟨b, o + j, none⟩) (k.block b (World.block_lt_of_cell? _ _ h) ht)
    have no : ¬ Oth (fun x => w4.heap.size ≤ x ∧ x < w5.heap.size) w b := fun e => e.2 hb
    exact step K11 no (step K10 id (step K9 no (step K8 no (step K7 no (step K6 id h5)))))
  have hz12 : ∃ b o, a = some ⟨b, o, none⟩ ∧ w11.cell? ⟨b, o + 3, none⟩ = some (.string nB) ∧ w11.cell? ⟨b, o + 3 + 1, none⟩ = some (.int .i64 12) ∧ w11.cell? ⟨b, o + 3 + 2, none⟩ = some (.int .i64 6) := by
    rcases hz11 with h0 | ⟨b, o, ea, hc⟩
    · exact absurd (congrArg List.length h0) (by decide)
    · exact ⟨b, o, ea, by rw [hc 3 _ rfl, str_nums], hc 4 _ rfl, hc 5 _ rfl⟩
  obtain ⟨b, o, ea, r3, r4, r5⟩ := hz12
  have ld := load53_at r3 r4 r5
  have e53 := eq53
  have KK' : RowKit.Hid (Keep (fun _ => False) w w11) := KK
  have gx := H.good ⟨#[120]⟩ (by decide)
  have gz := H.good ⟨#[]⟩ (by decide)
  rw [show goodS (bs ⟨#[120]⟩) = true by decide +kernel] at gx
  rw [show goodS (bs ⟨#[]⟩) = false by decide +kernel] at gz
  have gx1 := gx w11
  have gz' : RowKit.Hid (∀ w, Calls Tryz.prog 15 #[.string ⟨#[]⟩] w fun e w' => e = .returned (.bool false) ∧ Keep (fun _ => False) w w') := gz
  clear c11 V10 V11 K6 K7 K8 K9 K10 K11 KK hz hz11 R5 r3 r4 r5 gx gz
  subst ea
  go_wp2_with (guard_target =~ wpList _ _ _ (Oper.mk _ (Op.load 53 _) _ _ _ _ :: _) _ _; refine wpList_load_run (by rfl) 53 (.tmp 71) rfl (by rfl) ld ?_)
  refine gx1.mono ?_
  rintro e w12 ⟨rfl, k12⟩
  have gz1 := gz'.out w12
  have K12 : RowKit.Hid (Keep (fun _ => False) w w12) := KK'.out.trans k12
  clear gx1 gz' k12 KK' ld
  go_wp2_with fail
  refine gz1.mono ?_
  rintro e w13 ⟨rfl, k13⟩
  have K13 : RowKit.Hid (Keep (fun _ => False) w w13) := K12.out.trans k13
  clear gz1 k13 K12
  go_wp2_with fail
  go_ret
  exact ⟨rfl, K13⟩
end
end Tg
end Go.Proofs.YtjgnajopomadpaaGreat
