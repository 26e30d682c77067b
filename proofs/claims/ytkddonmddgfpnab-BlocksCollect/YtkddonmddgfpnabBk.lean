/-
  awake, BlocksKnown and BlocksRuns, given what the program's own calls answer.
-/
import Derived.Test.YtkddonmddgfpnabBt
namespace Go.Proofs.Ytkddonmddgfpnab
open Go.ChangeShapes Go.WideShapes Go.ChangeAt Go.RowKit
namespace Tg
/-- A row of truths, wherever it begins. -/
def Bz (w : World) (a : Option Addr) (cap : Nat) (xs : List Bool) : Prop :=
  xs.length ≤ cap ∧ cap ≤ 9223372036854775807 ∧ (xs = [] ∨ ∃ g o, a = some ⟨g, o, none⟩ ∧ ∀ i v, xs[i]? = some v → w.cell? ⟨g, o + i, none⟩ = some (.bool v))
theorem Bz.keep {S : Nat → Prop} {w w' : World} {a : Option Addr} {cap : Nat} {l : List Bool} (h : Bz w a cap l) (k : Keep S w w') (hs : ∀ g o, a = some ⟨g, o, none⟩ → l ≠ [] → ¬ S g) : Bz w' a cap l := by
  obtain ⟨h1, h2, h3⟩ := h
  by_cases hl : l = []
  · exact ⟨h1, h2, Or.inl hl⟩
  refine ⟨h1, h2, h3.imp id ?_⟩
  rintro ⟨g, o, rfl, hc⟩
  refine ⟨g, o, rfl, fun i p hp => ?_⟩
  have c0 := hc i p hp
  have hb := World.block_lt_of_cell? w _ c0
  rw [← c0]
  exact World.cell?_of_block (w := w) (a := ⟨g, o + i, none⟩) (k.block g hb (hs g o rfl hl))
theorem Bz.more {w w' : World} {a : Option Addr} {cap : Nat} {l : List Bool} (h : Bz w a cap l) (k : Keep (fun _ => False) w w') : Bz w' a cap l := h.keep k (fun _ _ _ _ e => e)
theorem Bz.at {w : World} {a : Option Addr} {cap : Nat} {l : List Bool} (h : Bz w a cap l) {i : Nat} {v : Bool} (hv : l[i]? = some v) : ∃ g o, a = some ⟨g, o, none⟩ ∧ w.cell? ⟨g, o + i, none⟩ = some (.bool v) := by
  rcases h.2.2 with rfl | ⟨g, o, rfl, hc⟩
  · simp at hv
  · exact ⟨g, o, rfl, hc i v hv⟩
/-- Which block is worth being collected. -/
structure VicS (v : List Int) (b : List Bool) (r : Int) (ok : Bool) : Prop where
  yes : ok = true → ∃ j : Nat, r = (j : Int) ∧ j < v.length ∧ b[j]? = some true ∧ ∀ i, i < v.length → b[i]? = some true → v.getD j 0 < v.getD i 0 ∨ (v.getD j 0 = v.getD i 0 ∧ j ≤ i)
  no : ok = false → r = 0 ∧ ∀ i, i < v.length → b[i]? ≠ some true
/-- The program's Victim answers as it should. -/
def VictimOk : Prop := ∀ {w : World} {a1 a2 : Option Addr} {c1 c2 : Nat} {v : List Int} {b : List Bool}, Iz w a1 c1 v → Bz w a2 c2 b →
  Calls Try.prog 12 #[.slice a1 v.length c1, .slice a2 b.length c2] w fun e w' => ∃ r ok, e = .returned (.tuple #[.int .i64 r, .bool ok]) ∧ VicS v b r ok ∧ Keep (fun _ => False) w w'
/-- The chapter's runs. -/
def sam : List Rn := [⟨0, 3, 6⟩, ⟨5, 2, 2⟩]
theorem sample_any (w : World) : Calls Try.prog 10 #[] w fun e w' => ∃ g, e = .returned (.slice (some ⟨g, 0, none⟩) 2 2) ∧ Rz w' (some ⟨g, 0, none⟩) 2 sam ∧ Keep (fun _ => False) w w' := by
  have hr := (rs_new w #[.int .i64 0, .int .i64 3, .int .i64 6, .int .i64 5, .int .i64 2, .int .i64 2] 35 sam rfl (by decide)).rz
  have K := (Keep.refl (fun _ => False) w).alloc (.cells #[.int .i64 0, .int .i64 3, .int .i64 6, .int .i64 5, .int .i64 2, .int .i64 2] 35)
  go_enter Try.func10, Try.ntmps10
  go_wp2_with fail
  go_ret
  exact ⟨_, rfl, hr, K⟩
theorem sam_fits : Fits sam := fun x hx => by
  simp only [sam, List.mem_cons, List.not_mem_nil, or_false] at hx
  rcases hx with rfl | rfl <;> simp
theorem iz_new (w : World) (A : Array Value) (ty : TypeId) (l : List Int) (hA : A.toList = ic l) (hl : l.length ≤ 100000) : Iz (w.alloc (.cells A ty)) (some ⟨w.heap.size, 0, none⟩) l.length l := by
  refine ⟨Nat.le_refl _, by omega, Or.inr ⟨_, 0, rfl, fun i v hv => ?_⟩⟩
  have := cells_new w A ty i (.int .i64 v) (by rw [hA]; simp [ic, hv])
  rwa [Addr.add_lit] at this
theorem bz_new (w : World) (A : Array Value) (ty : TypeId) (l : List Bool) (hA : A.toList = l.map Value.bool) (hl : l.length ≤ 100000) : Bz (w.alloc (.cells A ty)) (some ⟨w.heap.size, 0, none⟩) l.length l := by
  refine ⟨Nat.le_refl _, by omega, Or.inr ⟨_, 0, rfl, fun i v hv => ?_⟩⟩
  have := cells_new w A ty i (.bool v) (by rw [hA]; simp [hv])
  rwa [Addr.add_lit] at this
theorem vic_sam {r : Int} {ok : Bool} (h : VicS [2, 2, 1] [true, true, true] r ok) : ok = true ∧ r = 2 := by
  cases ok with
  | false => exact absurd rfl ((h.no rfl).2 0 (by decide))
  | true =>
    obtain ⟨j, rfl, h1, h2, h3⟩ := h.yes rfl
    have h4 := h3 2 (by decide) rfl
    simp only [List.length_cons, List.length_nil] at h1
    rcases (by omega : j = 0 ∨ j = 1 ∨ j = 2) with rfl | rfl | rfl
    · simp at h4
    · simp at h4
    · exact ⟨rfl, rfl⟩
theorem vic_two {r : Int} {ok : Bool} (h : VicS [2, 2, 1] [true, true] r ok) : ok = true ∧ r = 0 := by
  cases ok with
  | false => exact absurd rfl ((h.no rfl).2 0 (by decide))
  | true =>
    obtain ⟨j, rfl, h1, h2, h3⟩ := h.yes rfl
    have h4 := h3 0 (by decide) rfl
    simp only [List.length_cons, List.length_nil] at h1
    rcases (by omega : j = 0 ∨ j = 1 ∨ j = 2) with rfl | rfl | rfl
    · exact ⟨rfl, rfl⟩
    · simp at h4
    · simp at h2
theorem vic_none {r : Int} {ok : Bool} (h : VicS [] [] r ok) : ok = false := by
  cases ok with
  | false => rfl
  | true =>
    obtain ⟨j, rfl, h1, -⟩ := h.yes rfl
    simp at h1
def AwOk : Prop := ∀ w : World, Calls Try.prog 8 #[] w fun e w' => e = .returned (.bool true) ∧ Keep (fun _ => False) w w'
theorem val_sam : valL 4 sam 3 = [2, 2, 1] := by decide
theorem spl_sam : splL 4 sam = [⟨0, 2, 6⟩, ⟨2, 1, 8⟩, ⟨5, 2, 2⟩] := by rfl
theorem mov_sam : movL 4 1 sam = [⟨0, 2, 6⟩] := by rfl
theorem mov_sam0 : movL 4 0 sam = [⟨5, 2, 2⟩] := by rfl
theorem vok_sam : vOk sam 3 4 = true := by decide
theorem vok_sam2 : vOk sam 2 4 = false := by decide
theorem sok_sam : sOk sam 4 = true := by decide
set_option maxRecDepth 100000 in
set_option maxHeartbeats 1000000 in
theorem awake_any (HV : ValidOk) (HS : SplitOk) (HM : MovesOk) (HC : VictimOk) : AwOk := by
  intro w
  go_enter Try.func8, Try.ntmps8
  go_wp2_with fail
  refine (sample_any _).mono ?_
  rintro e w1 ⟨g1, rfl, Z1, k1⟩
  have h1 := HV 3 4 Z1 sam_fits (by omega) (by omega)
  simp only [vok_sam, if_true] at h1
  rw [show Int.toNat 3 = 3 from rfl, val_sam] at h1
  rw [show sam.length = 2 from rfl] at h1
  go_wp2_with fail
  refine h1.mono ?_
  rintro e w2 ⟨⟨a2, c2, rfl, I2⟩, k2⟩
  clear h1
  go_wp2_with fail
  refine (sample_any _).mono ?_
  rintro e w3 ⟨g3, rfl, Z3, k3⟩
  have h3 := HS 4 Z3 sam_fits (by omega)
  simp only [sok_sam, if_true, spl_sam] at h3
  rw [show sam.length = 2 from rfl] at h3
  go_wp2_with fail
  refine h3.mono ?_
  rintro e w4 ⟨⟨a4, c4, rfl, Z4⟩, k4⟩
  clear h3
  go_wp2_with fail
  refine (sample_any _).mono ?_
  rintro e w5 ⟨g5, rfl, Z5, k5⟩
  have h5 := HM 1 4 Z5 sam_fits (by omega) (by omega)
  simp only [sok_sam, mov_sam] at h5
  rw [show sam.length = 2 from rfl] at h5
  go_wp2_with fail
  refine h5.mono ?_
  rintro e w6 ⟨h6, k6⟩
  rw [if_pos ⟨trivial, by omega, by omega⟩] at h6
  obtain ⟨a6, c6, rfl, Z6, -⟩ := h6
  clear h5
  rw [show ([⟨0, 2, 6⟩] : List Rn).length = 1 from rfl]
  have hc4 := Z4.1
  have hc4' := Z4.2.1
  have hc6 := Z6.1
  have hc6' := Z6.2.1
  rw [show ([⟨0, 2, 6⟩, ⟨2, 1, 8⟩, ⟨5, 2, 2⟩] : List Rn).length = 3 from rfl] at hc4
  rw [show ([⟨0, 2, 6⟩] : List Rn).length = 1 from rfl] at hc6
  obtain ⟨g7, o7, rfl, x0, x1, x2⟩ := Z4.at (i := 1) (x := ⟨2, 1, 8⟩) rfl
  obtain ⟨g8, o8, rfl, y0, y1, y2⟩ := Z6.at (i := 0) (x := ⟨0, 2, 6⟩) rfl
  have I7 := iz_new w6 #[.int .i64 2, .int .i64 2, .int .i64 1] 3 [2, 2, 1] rfl (by decide)
  have B7 := bz_new (w6.alloc (.cells #[.int .i64 2, .int .i64 2, .int .i64 1] 3)) #[.bool true, .bool true, .bool true] 4 [true, true, true] rfl (by decide)
  have K7 := ((Keep.refl (fun _ => False) w6).alloc (.cells #[.int .i64 2, .int .i64 2, .int .i64 1] 3)).alloc (.cells #[.bool true, .bool true, .bool true] 4)
  have hvi := HC (I7.more ((Keep.refl _ _).alloc (.cells #[.bool true, .bool true, .bool true] 4))) B7
  rw [show (w6.alloc (.cells #[.int .i64 2, .int .i64 2, .int .i64 1] 3)).heap.size = w6.heap.size + 1 by simp, show ([2, 2, 1] : List Int).length = 3 from rfl, show ([true, true, true] : List Bool).length = 3 from rfl] at hvi
  clear I7 B7
  go_wp2_with fail
  refine hvi.mono ?_
  rintro e w9 ⟨r, ok, rfl, hvs, k9⟩
  obtain ⟨rfl, rfl⟩ := vic_sam hvs
  have K49 := k5.trans (k6.trans (K7.trans k9))
  have K69 := K7.trans k9
  have I9 := I2.more (k3.trans (k4.trans K49))
  have I10 := iz_new w9 #[.int .i64 2, .int .i64 2, .int .i64 1] 3 [2, 2, 1] rfl (by decide)
  have K10 := (Keep.refl (fun _ => False) w9).alloc (.cells #[.int .i64 2, .int .i64 2, .int .i64 1] 3)
  have hin := ints_any (I9.more K10) I10 (by decide)
  rw [decide_eq_true rfl, show ([2, 2, 1] : List Int).length = 3 from rfl] at hin
  clear hvi hvs I9 I10
  go_wp2_with fail
  refine hin.mono ?_
  rintro e w11 ⟨rfl, k11⟩
  have K4b := K49.trans (K10.trans k11)
  have K6b := K69.trans (K10.trans k11)
  have X0 := K4b.cell x0
  have X1 := K4b.cell x1
  have X2 := K4b.cell x2
  have Y0 := K6b.cell y0
  have Y1 := K6b.cell y1
  have Y2 := K6b.cell y2
  have Kall := (k1.trans (k2.trans (k3.trans k4))).trans K4b
  simp only [Nat.zero_mul, Nat.add_zero, Nat.one_mul] at X0 X1 X2 Y0 Y1 Y2
  clear hin x0 x1 x2 y0 y1 y2
  go_wp2_with fail
  go_ret
  exact ⟨rfl, Kall⟩
set_option maxRecDepth 100000 in
set_option maxHeartbeats 1000000 in
theorem known_walk (HV : ValidOk) (HS : SplitOk) (HM : MovesOk) (HC : VictimOk) (w : World) : Calls Try.prog 3 #[] w fun e w' => e = .returned (.bool true) ∧ Keep (fun _ => False) w w' := by
  go_enter Try.func3, Try.ntmps3
  go_wp2_with fail
  refine (awake_any HV HS HM HC _).mono ?_
  rintro e w0 ⟨rfl, k0⟩
  go_wp2_with fail
  refine (sample_any _).mono ?_
  rintro e w1 ⟨g1, rfl, Z1, k1⟩
  have h1 := HV 2 4 Z1 sam_fits (by omega) (by omega)
  simp only [vok_sam2, Bool.false_eq_true, if_false] at h1
  rw [show sam.length = 2 from rfl] at h1
  go_wp2_with fail
  refine h1.mono ?_
  rintro e w2 ⟨⟨a2, c2, rfl⟩, k2⟩
  clear h1
  go_wp2_with fail
  refine (sample_any _).mono ?_
  rintro e w3 ⟨g3, rfl, Z3, k3⟩
  have h5 := HM 0 4 Z3 sam_fits (by omega) (by omega)
  simp only [sok_sam, mov_sam0] at h5
  rw [show sam.length = 2 from rfl] at h5
  go_wp2_with fail
  refine h5.mono ?_
  rintro e w6 ⟨h6, k6⟩
  rw [if_pos ⟨trivial, by omega, by omega⟩] at h6
  obtain ⟨a6, c6, rfl, Z6, -⟩ := h6
  clear h5
  rw [show ([⟨5, 2, 2⟩] : List Rn).length = 1 from rfl]
  have hc6 := Z6.1
  have hc6' := Z6.2.1
  rw [show ([⟨5, 2, 2⟩] : List Rn).length = 1 from rfl] at hc6
  obtain ⟨g8, o8, rfl, y0, y1, y2⟩ := Z6.at (i := 0) (x := ⟨5, 2, 2⟩) rfl
  have I7 := iz_new w6 #[.int .i64 2, .int .i64 2, .int .i64 1] 3 [2, 2, 1] rfl (by decide)
  have B7 := bz_new (w6.alloc (.cells #[.int .i64 2, .int .i64 2, .int .i64 1] 3)) #[.bool true, .bool true] 4 [true, true] rfl (by decide)
  have K7 := ((Keep.refl (fun _ => False) w6).alloc (.cells #[.int .i64 2, .int .i64 2, .int .i64 1] 3)).alloc (.cells #[.bool true, .bool true] 4)
  have hvi := HC (I7.more ((Keep.refl _ _).alloc (.cells #[.bool true, .bool true] 4))) B7
  rw [show (w6.alloc (.cells #[.int .i64 2, .int .i64 2, .int .i64 1] 3)).heap.size = w6.heap.size + 1 by simp, show ([2, 2, 1] : List Int).length = 3 from rfl, show ([true, true] : List Bool).length = 2 from rfl] at hvi
  clear I7 B7
  go_wp2_with fail
  refine hvi.mono ?_
  rintro e w9 ⟨r, ok, rfl, hvs, k9⟩
  obtain ⟨rfl, rfl⟩ := vic_two hvs
  have hvn := HC (w := w9) (a1 := none) (a2 := none) (c1 := 0) (c2 := 0) (v := []) (b := []) ⟨by simp, by omega, Or.inl rfl⟩ ⟨by simp, by omega, Or.inl rfl⟩
  rw [show ([] : List Int).length = 0 from rfl, show ([] : List Bool).length = 0 from rfl] at hvn
  clear hvi hvs
  go_wp2_with fail
  refine hvn.mono ?_
  rintro e w10 ⟨r2, ok2, rfl, hvs2, k10⟩
  obtain rfl := vic_none hvs2
  have K6b := K7.trans (k9.trans k10)
  have Y0 := K6b.cell y0
  have Kall := (k0.trans (k1.trans (k2.trans (k3.trans k6)))).trans K6b
  simp only [Nat.zero_mul, Nat.add_zero] at Y0
  clear hvn hvs2 y0 y1 y2
  go_wp2_with fail
  go_ret
  exact ⟨rfl, Kall⟩
set_option maxRecDepth 100000 in
set_option maxHeartbeats 1000000 in
theorem runs_walk (HA : AwOk) (HV : ValidOk) (HS : SplitOk) (HM : MovesOk) {w : World} {a1 a2 : Option Addr} {c1 c2 : Nat} {l p : List Rn} (hR : Rz w a1 c1 l) (hf : Fits l) (hll : l.length ≤ 5864062014700) (hP : Rz w a2 c2 p) (hfp : Fits p) {n pages block : Int}
    (hn : -9223372036854775808 ≤ n ∧ n ≤ 9223372036854775807) (hp : -9223372036854775808 ≤ pages ∧ pages ≤ 9223372036854775807) (hbk : -9223372036854775808 ≤ block ∧ block ≤ 9223372036854775807) :
    Calls Try.prog 4 #[.slice a1 l.length c1, .slice a2 p.length c2, .int .i64 n, .int .i64 pages, .int .i64 block] w fun e w' => e = .returned (.bool true) ∧ Keep (fun _ => False) w w' := by
  have hc1 := hR.1
  have hc2 := hR.2.1
  have hc3 := hP.1
  have hc4 := hP.2.1
  by_cases h1 : p.length ≤ 100
  · have d1 : ¬ (100 : Int) < (p.length : Int) := by omega
    go_enter Try.func4, Try.ntmps4
    go_wp2_with fail
    refine (HA _).mono ?_
    rintro e w0 ⟨rfl, k0⟩
    have ht := tells_any HV HS HM (hR.more k0) hf hll hn hp hbk
    go_wp2_with fail
    refine ht.mono ?_
    rintro e w1 ⟨rfl, k1⟩
    have hfo := fold9 (hP.more (k0.trans k1)) hfp
    clear ht
    go_wp2_with fail
    refine hfo.mono ?_
    rintro e w2 ⟨a2', c2', rfl, R2⟩
    have hl2 := foldR_len p
    have ht2 := tells_any HV HS HM R2.rs.rz (foldR_fits p) (by omega) hn hp hbk
    clear hfo
    go_wp2_with fail
    refine ht2.mono ?_
    rintro e w3 ⟨rfl, k3⟩
    go_wp2_with fail
    go_ret
    exact ⟨rfl, (k0.trans k1).trans (R2.keep.trans k3)⟩
  · have d1 : (100 : Int) < (p.length : Int) := by omega
    go_enter Try.func4, Try.ntmps4
    go_wp2_with fail
    refine (HA _).mono ?_
    rintro e w0 ⟨rfl, k0⟩
    go_wp2_with fail
    refine (HA _).mono ?_
    rintro e w1 ⟨rfl, k1⟩
    go_wp2_with fail
    go_ret
    exact ⟨rfl, k0.trans k1⟩
end Tg
end Go.Proofs.Ytkddonmddgfpnab
