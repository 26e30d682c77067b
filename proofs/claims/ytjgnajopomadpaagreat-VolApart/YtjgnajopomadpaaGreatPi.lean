/-
  The document's own Shadowed, put.
-/
import Derived.Test.YtjgnajopomadpaaGreatPh
namespace Go.Proofs.YtjgnajopomadpaaGreat
open Go.ChangeShapes Go.WideShapes Go.ChangeAt Go.RowKit
namespace Tg
open Qm
/-- How many of the first sectors are entries by themselves. -/
def cntE (N : Int) (l : List Int) : Nat → Nat
  | 0 => 0
  | k + 1 => cntE N l k + (if (entL N l k).isSome then 1 else 0)
theorem cntE_le (N : Int) (l : List Int) : ∀ k, cntE N l k ≤ k
  | 0 => Nat.le_refl _
  | k + 1 => by have := cntE_le N l k; unfold cntE; split <;> omega
set_option maxRecDepth 100000 in
set_option maxHeartbeats 2000000 in
theorem shadowed25 {l : List Int} (hl8 : B8 l) {N : Nat} (hl : l.length = N * 32) (hN : 9 ≤ N ∧ N ≤ 512) (w : World) :
    Calls Tryz.prog 21 #[.string (strOfNums l)] w fun e w' => e = .returned (.bool (decide (¬ cntE N l 8 = (volL N l).length))) ∧ Keep (fun _ => False) w w' := by
  have hvol := volumes25 hl8 hl hN
  have hent : RowKit.Hid (∀ i : Nat, i < 8 → ∀ wx, Calls Tryz.prog 46 #[.string (strOfNums l), .int .i64 (i : Int)] wx fun e w' => e = .returned (enV (entL N l i)) ∧ Keep (fun _ => False) wx w') := fun i hi wx => entry25 hl8 hl hN.2 (by omega) wx
  have heok : RowKit.Hid (∀ i : Nat, i < 8 → ∀ e, entL N l i = some e → e.Ok N) := fun i hi e h => entL_ok hl8 hl (by omega) (by omega) h
  have hNb : RowKit.Hid (N ≤ 512) := hN.2
  have hcs : RowKit.Hid (∀ k : Nat, cntE N l (k + 1) = cntE N l k + (if (entL N l k).isSome then 1 else 0)) := fun k => rfl
  have hcl : RowKit.Hid (∀ k : Nat, cntE N l k ≤ k) := cntE_le N l
  obtain ⟨C, hC⟩ : ∃ C : Nat → Nat, RowKit.Hid (C = cntE N l) := ⟨_, rfl⟩
  rw [← hC.out] at hcs hcl ⊢
  have hC0 : RowKit.Hid (C 0 = 0) := by show C 0 = 0; rw [hC.out]; rfl
  generalize volL N l = V at *
  obtain ⟨n, hn⟩ : ∃ n, n = V.length := ⟨_, rfl⟩
  have hvol : RowKit.Hid (∀ wx, Calls Tryz.prog 44 #[.string (strOfNums l)] wx fun e w' => ∃ a cap, e = .returned (.slice a n cap) ∧ Ev wx w' a cap V) := by rw [hn]; exact hvol
  rw [← hn]
  obtain ⟨D, hD⟩ : ∃ D, RowKit.Hid (D = decide (¬ C 8 = n)) := ⟨_, rfl⟩
  rw [← hD.out]
  generalize strOfNums l = T at *
  clear hl8 hl hN hn hC
  go_enter Tryz.func21, Tryz.ntmps21
  go_wp2_with fail
  go_loopw [3, 4] (fun cv v wx => ∃ (i c : Nat), cv = .int .i64 (c : Int) ∧ v = .int .i64 (i : Int) ∧ RowKit.Hid (i ≤ 8 ∧ c = C i) ∧ RowKit.Hid (Keep (fun _ => False) w wx)) (fun _ v _ => 8 - (intOf v).toNat)
  case atStart => exact ⟨0, 0, rfl, rfl, ⟨by omega, hC0.out.symm⟩, Keep.refl _ _⟩
  case round =>
    clear hC0
    obtain ⟨i, c, rfl, rfl, hi, hK⟩ := hrel
    by_cases h8 : i = 8
    · have hge : ¬ (i : Int) < 8 := by omega
      have hv := hvol.out wr
      have hc8 : RowKit.Hid (c = C 8) := by show c = C 8; rw [← h8]; exact hi.out.2
      clear hi hent heok hcs hcl hNb h8 hvol
      go_wp2_with fail
      refine hv.mono ?_
      rintro e w2 ⟨a, cap, rfl, E2⟩
      have hK2 : RowKit.Hid (Keep (fun _ => False) w w2) := hK.out.trans E2.keep
      clear hv E2 hK
      by_cases hcn : c = n
      · have hDD : RowKit.Hid (D = false) := by show D = false; rw [hD.out, ← hc8.out, decide_eq_false]; exact fun h => h hcn
        have q : (c : Int) = (n : Int) := by omega
        clear hD hc8 hcn
        go_wp2_with fail
        go_ret
        exact ⟨by rw [hDD.out]; simp, hK2⟩
      · have hDD : RowKit.Hid (D = true) := by show D = true; rw [hD.out, ← hc8.out, decide_eq_true hcn]
        have q : ¬ (c : Int) = (n : Int) := by omega
        clear hD hc8 hcn
        go_wp2_with fail
        go_ret
        exact ⟨by rw [hDD.out]; simp [q], hK2⟩
    · have hlt : (i : Int) < 8 := by have := hi.out.1; omega
      have hw1 : IntKind.i64.wrap ((i : Int) + 1) = ((i + 1 : Nat) : Int) := by rw [show (i : Int) + 1 = ((i + 1 : Nat) : Int) by omega]; exact wrapI (by omega) (by omega)
      have hw2 : IntKind.i64.wrap ((c : Int) + 1) = ((c + 1 : Nat) : Int) := by rw [show (c : Int) + 1 = ((c + 1 : Nat) : Int) by omega]; exact wrapI (by omega) (by have := hcl.out i; have := hi.out; omega)
      have hc := hent.out i (by omega) wr
      obtain ⟨U, hU⟩ : ∃ U, RowKit.Hid (U = entL N l i) := ⟨_, rfl⟩
      rw [← hU.out] at hc
      obtain ⟨e, ok, hval, hok1, hok0, -⟩ := ent_parts (V := U) (N := N) hNb.out (fun e h => heok.out i (by omega) e (by rw [← hU.out]; exact h))
      rw [hval] at hc
      have hnx : RowKit.Hid (i + 1 ≤ 8 ∧ (if ok then c + 1 else c) = C (i + 1)) := by
        refine ⟨by omega, ?_⟩
        rw [hcs.out, ← hU.out, ← hi.out.2]
        cases ok with
        | true => rw [hok1 rfl]; rfl
        | false => rw [hok0 rfl]; rfl
      have hi8 : RowKit.Hid (i < 8) := by show i < 8; omega
      clear hval hok0 hok1 hU hent heok hcs hcl hNb h8 hvol hD hi
      generalize strOfNums e.nm = es at *
      go_upto_region 5 with fail
      go_wp2_with fail
      refine hc.mono ?_
      rintro e2 w2 ⟨rfl, k2⟩
      have K3 : RowKit.Hid (Keep (fun _ => False) w (w2.alloc (.cells #[.string es, .int .i64 e.f, .int .i64 e.n, .int .i64 e.i] 91))) := (hK.out.trans k2).alloc _
      clear hc k2 hK
      cases ok with
      | true =>
        go_wp2_with fail
        go_roundw
        case rel => exact ⟨i + 1, c + 1, rfl, rfl, hnx, K3⟩
        case measure => have := hi8.out; simp [intOf]; omega
      | false =>
        go_wp2_with fail
        go_roundw
        case rel => exact ⟨i + 1, c, rfl, rfl, hnx, K3⟩
        case measure => have := hi8.out; simp [intOf]; omega
theorem bytesE_b8 {nm : List Int} (hb : B8 nm) (f n : Int) : B8 (bytesE nm f n) := by
  intro x hx
  unfold bytesE at hx
  rcases List.mem_append.1 hx with h | h
  · rcases List.mem_append.1 h with h | h
    · exact headE_b8 hb f n x h
    · exact le4_b8 _ x h
  · rw [List.mem_replicate] at h; omega
/-- A disk with an entry written. -/
def putL (l : List Int) (e : En) : List Int := wrL l e.i.toNat 1 (bytesE e.nm e.f e.n)
set_option maxRecDepth 100000 in
set_option maxHeartbeats 1000000 in
theorem put25 {l : List Int} {N : Nat} (hl : l.length = N * 32) (hN : N ≤ 512) {nm : List Int} (hb : B8 nm) (hn : nm.length ≤ 16) (f n : Int) {j : Nat} (hj : j < N) (w : World) :
    Calls Tryz.prog 68 #[.string (strOfNums l), .agg #[.string (strOfNums nm), .int .i64 f, .int .i64 n, .int .i64 (j : Int)]] w fun e w' => e = .returned (.string (strOfNums (wrL l j 1 (bytesE nm f n)))) ∧ Keep (fun _ => False) w w' := by
  have hBy := fun w => bytes25 hb hn f n (j : Int) w
  have hbb := bytesE_b8 hb f n
  have hWr := fun w => rwrite17_yes (d := strOfNums (bytesE nm f n)) hl hN (lba := j) (n := 1) (okR_iff.2 ⟨by omega, by omega, by omega⟩) w
  rw [nums_str hbb] at hWr
  generalize strOfNums (wrL l j 1 (bytesE nm f n)) = U at *
  generalize strOfNums (bytesE nm f n) = SB at *
  generalize strOfNums l = T at *
  have K1 : Keep (fun _ => False) w (w.alloc (.cells #[.string (strOfNums nm), .int .i64 f, .int .i64 n, .int .i64 (j : Int)] 91)) := (Keep.refl _ _).alloc _
  have L1 : Blk (w.alloc (.cells #[.string (strOfNums nm), .int .i64 f, .int .i64 n, .int .i64 (j : Int)] 91)) w.heap.size 4 (enC ⟨nm, f, n, j⟩) :=
    blk_alloc w _ 91 4 _ (by intro k hk; rcases (by omega : k = 0 ∨ k = 1 ∨ k = 2 ∨ k = 3) with rfl | rfl | rfl | rfl <;> rfl)
  clear hl hN hb hn hj hbb
  go_enter Tryz.func68, Tryz.ntmps68
  go_upto_region 1 with fail
  generalize w.alloc (.cells #[.string (strOfNums nm), .int .i64 f, .int .i64 n, .int .i64 (j : Int)] 91) = w1 at *
  generalize w.heap.size = gb at L1 ⊢
  have hbx : RowKit.Hid ((∀ w', Keep (fun _ => False) w1 w' → (Instr.loadAt 91 (.pointer (some ⟨gb, 0, none⟩))).run Tryz.prog w' = .ok (.agg #[.string (strOfNums nm), .int .i64 f, .int .i64 n, .int .i64 (j : Int)]) w') ∧ (∀ w', Keep (fun _ => False) w1 w' → w'.cell? ⟨gb, 3, none⟩ = some (.int .i64 (j : Int)))) :=
    ⟨fun w' k => load50 (L1.keep k (fun e => e)), fun w' k => ((L1.keep k (fun e => e)) 3 (by omega)).1⟩
  have K1' : RowKit.Hid (Keep (fun _ => False) w w1) := K1
  clear L1 K1
  refine wp_region_noPanic ?_
  refine wp_region_held_drew (S := fun w' => Keep (fun _ => False) w1 w') (by kernel_rfl) ((Keep.refl _ _).drew) (fun hH0 => ?_)
  refine tk 0 hH0 ?_
  refine tk 1 hH0 ?_
  refine tk 2 hH0 ?_ (hy := Or.inl ⟨by rfl, by intro w' hSw; have z3 := hbx.out.2 w' hSw; clear hSw; go_simp; try with_reducible rfl⟩)
  refine tk 3 (v := .agg #[.string (strOfNums nm), .int .i64 f, .int .i64 n, .int .i64 (j : Int)]) hH0 ?_ (hy := yields_load (by rfl) 91 _ rfl (by rfl) (fun w' h => hbx.out.1 w' h))
  refine rd 4 (fun K hK => ?_)
  refine step_call_want (vs := #[.agg #[.string (strOfNums nm), .int .i64 f, .int .i64 n, .int .i64 (j : Int)]]) (R := fun v wz => v = .string SB ∧ Keep (fun _ => False) w1.drew wz) (by rfl) 65 _ _ rfl (by simp [Act.eval]) gcall32 ((hBy w1.drew).mono (by rintro e wz ⟨rfl, k⟩; exact ⟨_, rfl, rfl, k⟩)) ?_
  rintro v wA ⟨rfl, kA⟩
  refine hK.out _ _ ((((Keep.refl _ _).drew).trans kA)) (fun hH1 => ?_)
  clear hK K
  simp only [Act.put, List.setIfInBounds_toArray, List.set_cons_zero, List.set_cons_succ]
  refine rd 5 (fun K hK => ?_)
  refine step_call_want (vs := #[.string T, .int .i64 (j : Int), .int .i64 1, .string SB]) (R := fun v wz => v = .tuple #[.string U, .bool true] ∧ Keep (fun _ => False) wA wz) (by rfl) 18 _ _ rfl (by simp [Act.eval]) gcall5 ((hWr wA).mono (by rintro e wz ⟨rfl, k⟩; exact ⟨_, rfl, rfl, k⟩)) ?_
  rintro v wB ⟨rfl, kB⟩
  refine hK.out _ _ (((((Keep.refl _ _).drew).trans kA).trans kB)) (fun hH2 => ?_)
  clear hK K
  simp only [Act.put, List.setIfInBounds_toArray, List.set_cons_zero, List.set_cons_succ]
  refine tk 6 hH2 ?_
  refine tk 7 hH2 ?_
  refine tk 8 hH2 ?_
  refine tk 9 hH2 ?_
  refine tk 10 hH2 ?_
  refine wpAnyH_done (by kernel_rfl) ?_ _
  refine NoPanic.normal ?_
  have hK : RowKit.Hid (Keep (fun _ => False) w wB) := K1'.out.trans ((((Keep.refl _ _).drew).trans kA).trans kB)
  clear hH0 hH1 hH2
  go_wp2_with fail
  go_ret
  exact ⟨rfl, hK⟩
end Tg
end Go.Proofs.YtjgnajopomadpaaGreat
