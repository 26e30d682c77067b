/-
  The document's own room.
-/
import Derived.Test.YtjgnajopomadpaaGreatPj
namespace Go.Proofs.YtjgnajopomadpaaGreat
open Go.ChangeShapes Go.WideShapes Go.ChangeAt Go.RowKit
namespace Tg
open Qm
theorem Rn.fin {w wz wx : World} {g0 gu gt ge N : Nat} {us ts : Nat → Bool} {e : En} (hK : Keep (fun _ => False) w wz) (hg : g0 = w.heap.size) (L : Blk wz g0 4 (enC En.z)) (R : Rn wz wx gu gt ge N us ts e) :
    (Instr.loadAt 91 (.pointer (some ⟨ge, 0, none⟩))).run Tryz.prog wx = .ok (.agg (enA e)) wx ∧ ∃ w7, (Instr.storeAt 91 (.pointer (some ⟨g0, 0, none⟩)) (.agg (enA e))).run Tryz.prog wx = .ok () w7 ∧ (loadVar 91 ⟨g0, 0, none⟩).run Tryz.prog w7 = .ok (.agg (enA e)) w7 ∧ Keep (fun _ => False) w w7 := by
  refine ⟨load50 R.be, ?_⟩
  obtain ⟨w7, h1, h2, h3⟩ := store50 (L.keep R.rm.kp (fun e => e)) e
  exact ⟨w7, h1, loadVar50 h2, (hK.trans R.rm.kp).next h3 (fun x hx e => by subst e; omega)⟩
theorem room_none {N : Nat} {V : List En} {n : Nat} (h : feF (takenV V) 8 < 0 ∨ seekL (usedV V) N n (N + 1) 8 = none) (f j : Int) : roomQ N V n (.tuple #[.agg #[.string ⟨#[]⟩, .int .i64 f, .int .i64 (n : Int), .int .i64 j], .bool false]) := by
  have : roomL N V n = none := by
    unfold roomL
    split
    · rfl
    · next hh => rcases h with h | h
                 · exact absurd h hh
                 · rw [h]; rfl
  unfold roomQ
  rw [this]
  exact ⟨f, j, rfl⟩
theorem room_some {N : Nat} {V : List En} {n : Nat} (h : ¬ feF (takenV V) 8 < 0) {a : Nat} (ha : seekL (usedV V) N n (N + 1) 8 = some a) : roomQ N V n (.tuple #[.agg #[.string ⟨#[]⟩, .int .i64 (a : Int), .int .i64 (n : Int), .int .i64 (feF (takenV V) 8)], .bool true]) := by
  have : roomL N V n = some (a, feF (takenV V) 8) := by
    unfold roomL
    rw [if_neg h, ha]; rfl
  unfold roomQ
  rw [this]
theorem seek_step {us : Nat → Bool} {N n m a : Nat} : seekL us N n (m + 1) a = if a + n ≤ N then (if fitsAt us n a then some a else seekL us N n m (a + 1)) else none := rfl
set_option maxRecDepth 100000 in
set_option maxHeartbeats 4000000 in
theorem room25 {l : List Int} (hl8 : B8 l) {N : Nat} (hl : l.length = N * 32) (hN : 9 ≤ N ∧ N ≤ 512) {n : Nat} (hn : 1 ≤ n ∧ n ≤ 512) (w : World) :
    Calls Tryz.prog 67 #[.string (strOfNums l), .int .i64 (n : Int)] w fun e w' => (∃ v, e = .returned v ∧ roomQ N (volL N l) n v) ∧ Keep (fun _ => False) w w' := by
  have hvol := volumes25 hl8 hl hN
  have hcap := fun w => cap_any (s := strOfNums l) (N := N) (by rw [strOfNums_size, hl]) hN.2 w
  obtain ⟨h1, h2⟩ := volK_ok hl8 hl (by omega : 8 ≤ N) 8 (Nat.le_refl _)
  have h1 : (volL N l).length ≤ 8 := h1
  have h2 : ∀ e ∈ volL N l, e.Ok N := h2
  generalize volL N l = V at *
  obtain ⟨m, hm⟩ : ∃ m, m = V.length := ⟨_, rfl⟩
  have hvol : RowKit.Hid (∀ wx, Calls Tryz.prog 44 #[.string (strOfNums l)] wx fun e w' => ∃ a cap, e = .returned (.slice a m cap) ∧ Ev wx w' a cap V) := by rw [hm]; exact hvol
  have hm' : RowKit.Hid (m = V.length ∧ m ≤ 8) := ⟨hm, by omega⟩
  have hNn : RowKit.Hid (9 ≤ N ∧ N ≤ 512 ∧ 1 ≤ n ∧ n ≤ 512) := ⟨hN.1, hN.2, hn.1, hn.2⟩
  have hok : RowKit.Hid (∀ e ∈ V, e.Ok N) := h2
  have hmkN := fun w => make61 N (by omega) w
  have hmk8 : ∀ w : World, (Instr.makeSlice 51 (.int .i64 8) (.int .i64 8)).run Tryz.prog w = .ok (.slice (some ⟨w.heap.size, 0, none⟩) 8 8) (w.alloc (.cells (madeCells #[.bool false] 8) 4)) := fun w => make61 8 (by omega) w
  have hblN : RowKit.Hid (∀ w : World, Blk (w.alloc (.cells (madeCells #[.bool false] N) 4)) w.heap.size N (fun _ => .bool false)) := fun w => blk61 N w
  have hbl8 : RowKit.Hid (∀ w : World, Blk (w.alloc (.cells (madeCells #[.bool false] 8) 4)) w.heap.size 8 (fun _ => .bool false)) := fun w => blk61 8 w
  have K1 : Keep (fun _ => False) w (w.alloc (.cells #[.string ⟨#[]⟩, .int .i64 0, .int .i64 0, .int .i64 0] 91)) := (Keep.refl _ _).alloc _
  have L1 := new50 w
  generalize strOfNums l = T at *
  clear hl8 hl hN hn h1 h2 hm
  go_enter Tryz.func67, Tryz.ntmps67
  go_upto_region 1 with fail
  generalize w.alloc (.cells #[.string ⟨#[]⟩, .int .i64 0, .int .i64 0, .int .i64 0] 91) = w1 at *
  obtain ⟨g0, hg0⟩ : ∃ g, RowKit.Hid (g = w.heap.size) := ⟨_, rfl⟩
  rw [← hg0.out] at L1 ⊢
  have K1' : RowKit.Hid (Keep (fun _ => False) w w1) := K1
  have L1' : RowKit.Hid (Blk w1 g0 4 (enC En.z)) := L1
  clear K1 L1
  go_wp2_with fail
  refine (hvol.out _).mono ?_
  rintro e w2 ⟨a, cap, rfl, E2⟩
  have E2' : RowKit.Hid (Ev w1 w2 a cap V) := E2
  have hK2 : RowKit.Hid (Keep (fun _ => False) w w2) := K1'.out.trans E2.keep
  have L2' : RowKit.Hid (Blk w2 g0 4 (enC En.z)) := L1'.out.keep E2.keep (fun e => e)
  have hc2 := hcap w2
  clear hvol E2 hcap K1' L1'
  go_wp2_with fail
  refine hc2.mono ?_
  rintro e wz ⟨rfl, ez⟩; subst ez
  clear hc2
  go_upto_region 4 with fail
  have R0 : RowKit.Hid (Rm wz ((wz.alloc (.cells (madeCells #[.bool false] N) 4)).alloc (.cells (madeCells #[.bool false] 8) 4)) wz.heap.size (wz.heap.size + 1) N (usedV (V.take 0)) (takenV (V.take 0))) :=
    ⟨((Keep.refl _ _).alloc _).alloc _, (hblN.out wz).alloc _, by have h := hbl8.out (wz.alloc (.cells (madeCells #[.bool false] N) 4)); rw [show (wz.alloc (.cells (madeCells #[.bool false] N) 4)).heap.size = wz.heap.size + 1 by simp] at h; exact h, Nat.le_refl _, Nat.lt_succ_self _⟩
  generalize (wz.alloc (.cells (madeCells #[.bool false] N) 4)).alloc (.cells (madeCells #[.bool false] 8) 4) = w4 at *
  generalize wz.heap.size = gu at *
  generalize gu + 1 = gt at *
  clear hmkN hmk8 hblN hbl8
  have hE : RowKit.Hid (∀ wx, Keep (fun _ => False) wz wx → Er wx a V) := fun wx k => (E2'.out.er).keep k
  clear E2'
  go_wp2_with fail
  go_loopw [9] (fun v wx => ∃ i : Nat, v = .int .i64 (i : Int) ∧ RowKit.Hid (i ≤ m) ∧ RowKit.Hid (Rm wz wx gu gt N (usedV (V.take i)) (takenV (V.take i)))) (fun v _ => m - (intOf v).toNat)
  case atStart => exact ⟨0, rfl, by show 0 ≤ m; omega, R0⟩
  case round =>
    clear R0
    obtain ⟨i, rfl, hi, hR⟩ := hrel
    by_cases him : i = m
    · have hge : ¬ (i : Int) < m := by omega
      have hR2 : RowKit.Hid (Rm wz wr gu gt N (usedV V) (takenV V)) := by
        have h := hR.out
        rw [him, hm'.out.1, List.take_length] at h
        exact h
      clear hR hi him hE hok hm'
      have hN1 := hNn.out.2.1
      have hn1 := hNn.out.2.2
      have hN9 := hNn.out.1
      obtain ⟨J, hJ⟩ : ∃ J, RowKit.Hid (J = feF (takenV V) 8) := ⟨_, rfl⟩
      obtain ⟨SK, hSK⟩ : ∃ SK, RowKit.Hid (SK = seekL (usedV V) N n (N + 1) 8) := ⟨_, rfl⟩
      have hnone : RowKit.Hid (J < 0 ∨ SK = none → roomQ N V n (.tuple #[.agg #[.string ⟨#[]⟩, .int .i64 0, .int .i64 (n : Int), .int .i64 J], .bool false])) := fun h => by rw [hJ.out, hSK.out] at h; exact room_none h 0 J
      have hsome : RowKit.Hid (∀ a : Nat, ¬ J < 0 → SK = some a → roomQ N V n (.tuple #[.agg #[.string ⟨#[]⟩, .int .i64 (a : Int), .int .i64 (n : Int), .int .i64 J], .bool true])) := fun a h1 h2 => by rw [hJ.out] at h1 ⊢; rw [hSK.out] at h2; exact room_some h1 h2
      generalize hts : takenV V = ts at *
      generalize hus : usedV V = us at *
      have RN : RowKit.Hid (Rn wz (wr.alloc (.cells #[.string ⟨#[]⟩, .int .i64 0, .int .i64 (n : Int), .int .i64 (-1)] 91)) gu gt wr.heap.size N us ts ⟨[], 0, n, feF ts 0⟩) :=
        ⟨hR2.out.more ((Keep.refl _ _).alloc _), blk_alloc wr _ 91 4 _ (by intro k hk; rcases (by omega : k = 0 ∨ k = 1 ∨ k = 2 ∨ k = 3) with rfl | rfl | rfl | rfl <;> rfl), hR2.out.bt.lt (by omega)⟩
      clear hR2 hts hus
      go_upto_block 4 with fail
      generalize wr.alloc (.cells #[.string ⟨#[]⟩, .int .i64 0, .int .i64 (n : Int), .int .i64 (-1)] 91) = w6 at *
      generalize wr.heap.size = ge at *
      go_wp2_with fail
      go_loopw [12] (fun v wx => ∃ (k : Nat) (z : Int), v = .int .i64 z ∧ RowKit.Hid (k ≤ 8 ∧ z = 7 - k) ∧ RowKit.Hid (Rn wz wx gu gt ge N us ts ⟨[], 0, n, feF ts k⟩)) (fun v _ => (intOf v + 1).toNat)
      case atStart => exact ⟨0, 7, rfl, ⟨by omega, by omega⟩, RN⟩
      case round =>
        clear RN
        obtain ⟨k, z, rfl, hk, hRN⟩ := hrel
        by_cases hk8 : k = 8
        · have hz : ¬ (0 : Int) ≤ z := by have := hk.out.2; omega
          have hR8 : RowKit.Hid (Rn wz wr gu gt ge N us ts ⟨[], 0, n, J⟩) := by
            have h := hRN.out
            rw [hk8, ← hJ.out] at h
            exact h
          clear hRN hk hk8 hJ
          go_wp2_with fail
          go_loopw [13] (fun v wx => ∃ (p q : Nat), v = .int .i64 (p : Int) ∧ RowKit.Hid (8 ≤ p ∧ p ≤ N ∧ p + q = N + 8 ∧ SK = seekL us N n (q + 1) p) ∧ RowKit.Hid (Rn wz wx gu gt ge N us ts ⟨[], 0, n, J⟩)) (fun v _ => N + 1 - (intOf v).toNat)
          case atStart => exact ⟨8, N, rfl, ⟨Nat.le_refl _, by omega, by omega, hSK.out⟩, hR8⟩
          case round =>
            clear hR8 hSK
            obtain ⟨p, q, rfl, hp, hRA⟩ := hrel
            obtain ⟨t2', t3⟩ := hRA.out.be 3 (by omega)
            have t2 : wr.cell? ⟨ge, 3, none⟩ = some (.int .i64 J) := t2'
            clear t2'
            by_cases hJ0 : J < 0
            · have hJ1 : ¬ (0 : Int) ≤ J := by omega
              have hqn : RowKit.Hid (roomQ N V n (.tuple #[.agg #[.string ⟨#[]⟩, .int .i64 0, .int .i64 (n : Int), .int .i64 J], .bool false])) := hnone.out (Or.inl hJ0)
              obtain ⟨hld0, w7, hst, hldv, K7⟩ := hRA.out.fin hK2.out hg0.out L2'.out
              have hA : enA ⟨[], 0, n, J⟩ = #[.string ⟨#[]⟩, .int .i64 0, .int .i64 (n : Int), .int .i64 J] := rfl
              rw [hA] at hld0 hst hldv
              have K7' : RowKit.Hid (Keep (fun _ => False) w w7) := K7
              clear hRA K7 hA hnone hsome hp hK2 L2' hg0
              go_wp2_with (first | (guard_target =~ wpList _ _ _ (Oper.mk _ (Op.store 91 (Operand.tmp 4) _) _ _ _ _ :: _) _ _; refine wpList_store_run rfl 91 (.tmp 4) (.tmp 98) rfl (by rfl) (by rfl) hst ?_) | (guard_target =~ wpList _ _ _ (Oper.mk _ (Op.load 91 _) _ _ _ _ :: _) _ _; refine wpList_load_run (by rfl) 91 (.tmp 11) (by rfl) (by rfl) hld0 ?_))
              refine bodyPost_ret (v := .tuple #[.agg #[.string ⟨#[]⟩, .int .i64 0, .int .i64 (n : Int), .int .i64 J], .bool false]) ?_ rfl ⟨⟨_, rfl, hqn⟩, K7'⟩
              rw [results_cell2 rfl]
              simp [asAddr, Result.andThen, hldv]
            · have hJ1 : (0 : Int) ≤ J := by omega
              have hwN : IntKind.i64.wrap ((N : Int) - (p : Int)) = ((N - p : Nat) : Int) := by have := hp.out; rw [show (N : Int) - (p : Int) = ((N - p : Nat) : Int) by omega]; exact wrapI (by omega) (by omega)
              have hsk := hp.out.2.2.2
              rw [seek_step] at hsk
              by_cases hfit : p + n ≤ N
              case neg =>
                have hlt : ¬ (n : Int) ≤ ((N - p : Nat) : Int) := by have := hp.out; omega
                rw [if_neg hfit] at hsk
                have hqn : RowKit.Hid (roomQ N V n (.tuple #[.agg #[.string ⟨#[]⟩, .int .i64 0, .int .i64 (n : Int), .int .i64 J], .bool false])) := hnone.out (Or.inr hsk)
                obtain ⟨hld0, w7, hst, hldv, K7⟩ := hRA.out.fin hK2.out hg0.out L2'.out
                have hA : enA ⟨[], 0, n, J⟩ = #[.string ⟨#[]⟩, .int .i64 0, .int .i64 (n : Int), .int .i64 J] := rfl
                rw [hA] at hld0 hst hldv
                have K7' : RowKit.Hid (Keep (fun _ => False) w w7) := K7
                clear hRA K7 hA hnone hsome hp hsk hfit hK2 L2' hg0
                go_wp2_with (first | (guard_target =~ wpList _ _ _ (Oper.mk _ (Op.store 91 (Operand.tmp 4) _) _ _ _ _ :: _) _ _; refine wpList_store_run rfl 91 (.tmp 4) (.tmp 98) rfl (by rfl) (by rfl) hst ?_) | (guard_target =~ wpList _ _ _ (Oper.mk _ (Op.load 91 _) _ _ _ _ :: _) _ _; refine wpList_load_run (by rfl) 91 (.tmp 11) (by rfl) (by rfl) hld0 ?_))
                refine bodyPost_ret (v := .tuple #[.agg #[.string ⟨#[]⟩, .int .i64 0, .int .i64 (n : Int), .int .i64 J], .bool false]) ?_ rfl ⟨⟨_, rfl, hqn⟩, K7'⟩
                rw [results_cell2 rfl]
                simp [asAddr, Result.andThen, hldv]
              case pos =>
                have hlt : (n : Int) ≤ ((N - p : Nat) : Int) := by have := hp.out; omega
                rw [if_pos hfit] at hsk
                have hsk' : RowKit.Hid (SK = if fitsAt us n p then some p else seekL us N n q (p + 1)) := hsk
                have hw1 : IntKind.i64.wrap ((p : Int) + 1) = ((p + 1 : Nat) : Int) := by have := hp.out; rw [show (p : Int) + 1 = ((p + 1 : Nat) : Int) by omega]; exact wrapI (by omega) (by omega)
                have hpN : RowKit.Hid (8 ≤ p ∧ p + n ≤ N ∧ p + q = N + 8) := ⟨hp.out.1, hfit, hp.out.2.2.1⟩
                clear hp hsk hfit
                go_wp2_with fail
                go_loopw [14, 15] (fun fv kv wx => ∃ (k : Nat) (B : Bool), fv = .bool B ∧ kv = .int .i64 (k : Int) ∧ RowKit.Hid (k ≤ n ∧ B = (List.range k).all (fun k => !us (p + k))) ∧ RowKit.Hid (Rn wz wx gu gt ge N us ts ⟨[], 0, n, J⟩)) (fun _ kv _ => n - (intOf kv).toNat)
                case atStart => exact ⟨0, true, rfl, rfl, ⟨by omega, rfl⟩, hRA⟩
                case round =>
                  clear hRA t2 t3
                  obtain ⟨k, B, rfl, rfl, hk, hRB⟩ := hrel
                  by_cases hkn : k = n
                  · have hge : ¬ (k : Int) < n := by omega
                    have hBf : B = fitsAt us n p := by rw [hk.out.2, hkn]; rfl
                    cases B with
                    | true =>
                      have hs2 : SK = some p := by rw [hsk'.out, ← hBf]; rfl
                      have hqs : RowKit.Hid (roomQ N V n (.tuple #[.agg #[.string ⟨#[]⟩, .int .i64 (p : Int), .int .i64 (n : Int), .int .i64 J], .bool true])) := hsome.out p hJ0 hs2
                      obtain ⟨t4', t5⟩ := hRB.out.be 1 (by omega)
                      have t4 : wr.cell? ⟨ge, 1, none⟩ = some (.int .i64 0) := t4'
                      clear t4'
                      have hRC := hRB.out.setF (p : Int)
                      obtain ⟨hld0, w7, hst, hldv, K7⟩ := hRC.fin hK2.out hg0.out L2'.out
                      have hA : enA ⟨[], (p : Int), n, J⟩ = #[.string ⟨#[]⟩, .int .i64 (p : Int), .int .i64 (n : Int), .int .i64 J] := rfl
                      rw [hA] at hld0 hst hldv
                      have K7' : RowKit.Hid (Keep (fun _ => False) w w7) := K7
                      clear K7 hA hnone hsome hk hkn hRB hRC hs2 hBf hsk' hK2 L2' hg0
                      go_wp2_with (first | (guard_target =~ wpList _ _ _ (Oper.mk _ (Op.store 91 (Operand.tmp 4) _) _ _ _ _ :: _) _ _; refine wpList_store_run rfl 91 (.tmp 4) (.tmp 97) rfl (by rfl) (by rfl) hst ?_) | (guard_target =~ wpList _ _ _ (Oper.mk _ (Op.load 91 _) _ _ _ _ :: _) _ _; refine wpList_load_run (by rfl) 91 (.tmp 11) (by rfl) (by rfl) hld0 ?_))
                      refine bodyPost_ret (v := .tuple #[.agg #[.string ⟨#[]⟩, .int .i64 (p : Int), .int .i64 (n : Int), .int .i64 J], .bool true]) ?_ rfl ⟨⟨_, rfl, hqs⟩, K7'⟩
                      rw [results_cell2 rfl]
                      simp [asAddr, Result.andThen, hldv]
                    | false =>
                      have hs2 : SK = seekL us N n q (p + 1) := by rw [hsk'.out, ← hBf]; rfl
                      have hnx : RowKit.Hid (8 ≤ p + 1 ∧ p + 1 ≤ N ∧ p + 1 + (q - 1) = N + 8 ∧ SK = seekL us N n (q - 1 + 1) (p + 1)) := by
                        have := hpN.out
                        exact ⟨by omega, by omega, by omega, by rw [show q - 1 + 1 = q by omega]; exact hs2⟩
                      clear hs2 hBf hkn hk hsk'
                      go_wp2_with fail
                      go_roundw
                      case rel => exact ⟨p + 1, q - 1, rfl, hnx, hRB⟩
                      case measure => have := hpN.out; simp [intOf]; omega
                  · have hlt2 : (k : Int) < n := by have := hk.out.1; omega
                    have hw2 : IntKind.i64.wrap ((k : Int) + 1) = ((k + 1 : Nat) : Int) := by rw [show (k : Int) + 1 = ((k + 1 : Nat) : Int) by omega]; exact wrapI (by omega) (by omega)
                    have hw3 : IntKind.i64.wrap ((p : Int) + (k : Int)) = ((p + k : Nat) : Int) := by have := hpN.out; rw [show (p : Int) + (k : Int) = ((p + k : Nat) : Int) by omega]; exact wrapI (by omega) (by omega)
                    have hb : p + k < N := by have := hpN.out; have := hk.out.1; omega
                    have hnx : RowKit.Hid (k + 1 ≤ n ∧ (B && !us (p + k)) = (List.range (k + 1)).all (fun k => !us (p + k))) := by
                      refine ⟨by omega, ?_⟩
                      rw [List.range_succ, List.all_append, ← hk.out.2]
                      simp
                    cases B with
                    | false =>
                      clear hk hkn hb hw3
                      rw [Bool.false_and] at hnx
                      go_wp2_with fail
                      go_roundw
                      case rel => exact ⟨k + 1, false, rfl, rfl, hnx, hRB⟩
                      case measure => have := hnx.out.1; simp [intOf]; omega
                    | true =>
                      obtain ⟨t0', t1⟩ := hRB.out.rm.bu (p + k) hb
                      have t0 : wr.cell? ⟨gu, p + k, none⟩ = some (.bool (us (p + k))) := t0'
                      clear t0'
                      rw [Bool.true_and] at hnx
                      generalize us (p + k) = ub at *
                      generalize p + k = X at *
                      clear hk hkn
                      go_wp2_with fail
                      go_roundw
                      case rel => exact ⟨k + 1, _, rfl, rfl, hnx, hRB⟩
                      case measure => have := hnx.out.1; simp [intOf]; omega
        · obtain ⟨j, hj⟩ : ∃ j : Nat, j = 7 - k := ⟨_, rfl⟩
          have hzj : z = (j : Int) := by have := hk.out; omega
          subst hzj
          have hge : (0 : Int) ≤ (j : Int) := by omega
          have hj8 : j < 8 := by omega
          have hw : IntKind.i64.wrap ((j : Int) - 1) = (j : Int) - 1 := wrapI (by omega) (by omega)
          obtain ⟨t0', t1⟩ := hRN.out.rm.bt j hj8
          have t0 : wr.cell? ⟨gt, j, none⟩ = some (.bool (ts j)) := t0'
          clear t0'
          obtain ⟨t2', t3⟩ := hRN.out.be 3 (by omega)
          have t2 : wr.cell? ⟨ge, 3, none⟩ = some (.int .i64 (feF ts k)) := t2'
          clear t2'
          have hk1 : RowKit.Hid (k + 1 ≤ 8 ∧ (j : Int) - 1 = 7 - ((k + 1 : Nat) : Int)) := by have := hk.out; exact ⟨by omega, by omega⟩
          have hfe : feF ts (k + 1) = if ts j then feF ts k else (j : Int) := by rw [hj]; rfl
          cases htj : ts j with
          | true =>
            rw [htj] at t0
            have hR9 : RowKit.Hid (Rn wz wr gu gt ge N us ts ⟨[], 0, n, feF ts (k + 1)⟩) := by show Rn _ _ _ _ _ _ _ _ _; rw [hfe, htj]; exact hRN.out
            clear hRN hk hk8 hj hfe htj
            go_wp2_with fail
            go_roundw
            case rel => exact ⟨k + 1, _, rfl, hk1, hR9⟩
            case measure => simp [intOf]
          | false =>
            rw [htj] at t0
            have hR9 : RowKit.Hid (Rn wz (wr.setCell ⟨ge, 3, none⟩ (.int .i64 (j : Int))) gu gt ge N us ts ⟨[], 0, n, feF ts (k + 1)⟩) := by show Rn _ _ _ _ _ _ _ _ _; rw [hfe, htj]; exact hRN.out.setI j
            clear hRN hk hk8 hj hfe htj
            go_wp2_with fail
            go_roundw
            case rel => exact ⟨k + 1, _, rfl, hk1, hR9⟩
            case measure => simp [intOf]
    · have hlt : (i : Int) < m := by have := hi.out; omega
      obtain ⟨x, hx⟩ : ∃ x, V[i]? = some x := ⟨_, List.getElem?_eq_getElem (by have := hm'.out; have := hi.out; omega)⟩
      have hxo := hok.out x (List.mem_of_getElem? hx)
      have hxf := hxo.f; have hxn := hxo.n; have hxfn := hxo.fn; have hxi := hxo.i
      have hNN := hNn.out
      obtain ⟨c, hc⟩ : ∃ c : Nat, x.i = (c : Int) := ⟨x.i.toNat, by omega⟩
      obtain ⟨xf, hf⟩ : ∃ c : Nat, x.f = (c : Int) := ⟨x.f.toNat, by omega⟩
      obtain ⟨xn, hn⟩ : ∃ c : Nat, x.n = (c : Int) := ⟨x.n.toNat, by omega⟩
      have hcell : RowKit.Hid (∀ wx, Keep (fun _ => False) wz wx → ∃ g o, a = some ⟨g, o, none⟩ ∧ wx.cell? ⟨g, o + i * 4 + 1, none⟩ = some (.int .i64 (xf : Int)) ∧ wx.cell? ⟨g, o + i * 4 + 2, none⟩ = some (.int .i64 (xn : Int)) ∧ wx.cell? ⟨g, o + i * 4 + 3, none⟩ = some (.int .i64 (c : Int))) := fun wx k => by
        obtain ⟨g, o, e, -, z1, z2, z3⟩ := hE.out wx k i x hx
        rw [hf] at z1; rw [hn] at z2; rw [hc] at z3
        exact ⟨g, o, e, z1, z2, z3⟩
      have b0 : RowKit.Hid (xf + xn ≤ N ∧ c < 8) := ⟨by omega, by omega⟩
      have hT := takenV_next hx hc
      have hU0 := usedV_none V (f := (xf : Int)) i
      have hU1 := usedV_next hx hn
      rw [hf] at hU1
      have hU0 : RowKit.Hid ((fun j => usedV (V.take i) j || decide ((xf : Int) ≤ (j : Int) ∧ (j : Int) < xf + (0 : Nat))) = usedV (V.take i)) := hU0
      have hU1 : RowKit.Hid ((fun j => usedV (V.take i) j || decide ((xf : Int) ≤ (j : Int) ∧ (j : Int) < xf + (xn : Nat))) = usedV (V.take (i + 1))) := hU1
      have hRT : RowKit.Hid (Rm wz (wr.setCell ⟨gt, c, none⟩ (.bool true)) gu gt N (fun j => usedV (V.take i) j || decide ((xf : Int) ≤ (j : Int) ∧ (j : Int) < xf + (0 : Nat))) (takenV (V.take (i + 1)))) := by
        show Rm _ _ _ _ _ _ _
        rw [hU0.out, ← hT]
        exact hR.out.setT c
      obtain ⟨t0, t1⟩ := hR.out.bt c b0.out.2
      obtain ⟨g, o, eg, -, -, z3⟩ := hcell.out wr hR.out.kp
      have hlen : RowKit.Hid (i < m) := by show i < m; omega
      have hc8 : c < 8 := b0.out.2
      have hw1 : IntKind.i64.wrap ((i : Int) + 1) = ((i + 1 : Nat) : Int) := by rw [show (i : Int) + 1 = ((i + 1 : Nat) : Int) by omega]; exact wrapI (by omega) (by have := hm'.out; omega)
      have hm8 : RowKit.Hid (m ≤ 8) := hm'.out.2
      have eg' : RowKit.Hid (a = some ⟨g, o, none⟩) := eg
      subst eg
      clear hx hxo hxf hxn hxfn hxi hNN hc hf hn hT hU0 hR hi him hE hok hm'
      go_wp2_with fail
      generalize wr.setCell ⟨gt, c, none⟩ (.bool true) = w5 at *
      clear t0 t1 z3
      go_loopw [10] (fun v wx => ∃ k : Nat, v = .int .i64 (k : Int) ∧ RowKit.Hid (k ≤ xn) ∧ RowKit.Hid (Rm wz wx gu gt N (fun j => usedV (V.take i) j || decide ((xf : Int) ≤ (j : Int) ∧ (j : Int) < xf + (k : Nat))) (takenV (V.take (i + 1))))) (fun v _ => xn - (intOf v).toNat)
      case atStart => exact ⟨0, rfl, by show 0 ≤ xn; omega, hRT⟩
      case round =>
        clear hRT
        obtain ⟨k, rfl, hk, hRK⟩ := hrel
        obtain ⟨g2, o2, eg2, z1, z2, -⟩ := hcell.out wr hRK.out.kp
        injection eg2 with eg2; injection eg2 with eg3 eg4; subst eg3; subst eg4
        by_cases hkx : k = xn
        · have hge : ¬ (k : Int) < xn := by omega
          have hR3 : RowKit.Hid (Rm wz wr gu gt N (usedV (V.take (i + 1))) (takenV (V.take (i + 1)))) := by
            have h := hRK.out
            rw [hkx, hU1.out] at h
            exact h
          clear hRK hk hkx hU1 hcell
          go_wp2_with fail
          go_roundw
          case rel => exact ⟨i + 1, rfl, hlen.out, hR3⟩
          case measure => have := hlen.out; simp [intOf]; omega
        · have hlt2 : (k : Int) < xn := by have := hk.out; omega
          have hb : xf + k < N := by have := hk.out; have := b0.out; omega
          have hN5 := hNn.out
          have hw2 : IntKind.i64.wrap ((xf : Int) + (k : Int)) = ((xf + k : Nat) : Int) := by rw [show (xf : Int) + (k : Int) = ((xf + k : Nat) : Int) by omega]; exact wrapI (by omega) (by omega)
          have hw3 : IntKind.i64.wrap ((k : Int) + 1) = ((k + 1 : Nat) : Int) := by rw [show (k : Int) + 1 = ((k + 1 : Nat) : Int) by omega]; exact wrapI (by omega) (by omega)
          obtain ⟨t0, t1⟩ := hRK.out.bu (xf + k) hb
          have hR3 : RowKit.Hid (Rm wz (wr.setCell ⟨gu, xf + k, none⟩ (.bool true)) gu gt N (fun j => usedV (V.take i) j || decide ((xf : Int) ≤ (j : Int) ∧ (j : Int) < xf + (k + 1 : Nat))) (takenV (V.take (i + 1)))) := by
            have h := hRK.out.setU (xf + k)
            rw [usedV_step] at h
            exact h
          have hk2 : RowKit.Hid (k + 1 ≤ xn) := by have := hk.out; show k + 1 ≤ xn; omega
          generalize xf + k = X at *
          clear hRK hk hkx hU1 hcell hN5 b0 hlen
          go_wp2_with fail
          go_roundw
          case rel => exact ⟨k + 1, rfl, hk2, hR3⟩
          case measure => have := hk2.out; simp [intOf]; omega
end Tg
end Go.Proofs.YtjgnajopomadpaaGreat
