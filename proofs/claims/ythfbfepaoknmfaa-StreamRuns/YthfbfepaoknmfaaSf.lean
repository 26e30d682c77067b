/-
  The document's own Feed, walked.
-/
import Derived.Test.YthfbfepaoknmfaaSe
namespace Go.Proofs.Ythfbfepaoknmfaa
open Go.ChangeShapes Go.WideShapes Go.ChangeAt Go.RowKit
namespace Tg
set_option maxRecDepth 100000 in
set_option maxHeartbeats 2000000 in
theorem rfeed14 {w0 w : World} {p g1 g2 g3 c1 c2 c3 : Nat} {us : List Int} {now : Int} {s : St} {n : Nat} (hR : Rh w0 w p g1 g2 g3 c1 c2 c3 s.ex us s.lg now) (hS : Stp us now s n) (hO : s.Ok n) (hn : n ≤ 16) (hnow : now ≤ 1000000) (hlg : ∀ i, 0 ≤ s.lg.getD i 0 ∧ s.lg.getD i 0 ≤ 1000000) {lba m : Int} (hc : 0 ≤ lba ∧ 1 ≤ m ∧ lba + m ≤ 1073741824) :
    Calls Try.prog 14 #[.pointer (some ⟨p, 0, none⟩), .int .i64 lba, .int .i64 m] w fun e w' => e = .returned (.int .i64 (s.pos lba : Int)) ∧ Rh w0 w' p g1 g2 g3 c1 c2 c3 (s.feed lba m).ex (us.set (s.pos lba) (now + 1)) (s.feed lba m).lg (now + 1) ∧ Keep (RhB p g1 g2 g3) w w' := by
  have hnow0 := hS.now
  have n1 := hO.pos
  have eex := hO.ex
  have elg := hO.lg
  have eus := hS.len
  have dnow := wrapI (x := now + 1) (by omega) (by omega)
  have dsum := wrapI (x := lba + m) (by omega) (by omega)
  have hq1 : Hid (s.ex.length = n) := eex
  have hq2 : Hid (us.length = n) := eus
  have hq3 : Hid (s.lg.length = n) := elg
  have K0 : Keep (fun _ => False) w w := Keep.refl _ _
  have hZ : Hid (∀ wx, Keep (fun _ => False) w wx → (wx.cell? ⟨p, 0, none⟩ = some (.slice (some ⟨g1, 0, none⟩) n c1) ∧ wx.cell? ⟨p, 1, none⟩ = some (.slice (some ⟨g2, 0, none⟩) n c2)) ∧ ∀ i, i < n → wx.cell? ⟨g1, i, none⟩ = some (.int .i64 (s.ex.getD i 0)) ∧ wx.cell? ⟨g2, i, none⟩ = some (.int .i64 (us.getD i 0))) := fun wx k => by
    have h := hR.more k
    have h0 := h.z0
    have h1 := h.z1
    rw [eex] at h0
    rw [eus] at h1
    exact ⟨⟨h0, h1⟩, fun i hi => ⟨(h.e1 (by omega)).1, (h.e2 (by omega)).1⟩⟩
  clear eex eus elg
  go_enter Try.func14, Try.ntmps14
  go_wp2_with fail
  go_loopw [7, 8] (fun av iv wx => ∃ (i : Nat) (r : Int), i ≤ n ∧ iv = .int .i64 (i : Int) ∧ av = .int .i64 r ∧ MxI s.ex us lba i r ∧ Keep (fun _ => False) w wx) (fun _ iv _ => n - (intOf iv).toNat)
  case atStart => exact ⟨0, -1, by omega, rfl, rfl, mx_zero _ _ _, K0⟩
  case round =>
    obtain ⟨i, r, hi, rfl, rfl, hM, k1⟩ := hrel
    obtain ⟨⟨z0, z1⟩, zi⟩ := (show ∀ wx, _ → _ from hZ) wr k1
    by_cases hlt : i < n
    · have di : (i : Int) < (n : Int) := by omega
      have dw := wrapI (x := (i : Int) + 1) (by omega) (by omega)
      have hlt' : Hid (i < n) := hlt
      obtain ⟨ci, ui⟩ := zi i hlt
      have hget : s.ex[i]? = some (s.ex.getD i 0) := get_of (by rw [show s.ex.length = n from hq1]; exact hlt)
      by_cases hx : s.ex.getD i 0 = lba
      · have b1 : (s.ex.getD i 0 == lba) = true := by rw [beq_iff_eq]; exact hx
        rw [hx] at hget
        generalize s.ex.getD i 0 = x at ci b1
        rcases hM with ⟨rfl, hM⟩ | ⟨j, rfl, hj, hjx, hjm⟩
        · have hM2 : Hid (MxI s.ex us lba (i + 1) (i : Int)) := mx_first (Or.inl ⟨rfl, hM⟩) hget
          clear hM hx zi hget hlt
          go_wp2_with fail
          go_quiet (fail)
          go_wp2_with fail
          go_roundw
          case rel => exact ⟨i + 1, _, hlt', by go_num, rfl, hM2, k1.drewN _⟩
          case measure => have : i < n := hlt'; simp [intOf]; omega
        · obtain ⟨-, uj⟩ := zi j (by omega)
          have dj0 : ¬ (j : Int) < 0 := by omega
          have dj : (j : Int) < (n : Int) := by omega
          by_cases hu : us.getD j 0 < us.getD i 0
          · have hM2 : Hid (MxI s.ex us lba (i + 1) (i : Int)) := mx_more (Or.inr ⟨j, rfl, hj, hjx, hjm⟩) hget hu
            have b2 : decide (us.getD j 0 < us.getD i 0) = true := decide_eq_true hu
            generalize us.getD j 0 = y at uj b2 hu
            generalize us.getD i 0 = z at ui b2 hu
            clear hjm hx zi hget hlt
            go_wp2_with fail
            go_quiet (fail)
            go_wp2_with fail
            go_roundw
            case rel => exact ⟨i + 1, _, hlt', by go_num, rfl, hM2, k1.drewN _⟩
            case measure => have : i < n := hlt'; simp [intOf]; omega
          · have hM2 : Hid (MxI s.ex us lba (i + 1) (j : Int)) := mx_less (Or.inr ⟨j, rfl, hj, hjx, hjm⟩) hu
            have b2 : decide (us.getD j 0 < us.getD i 0) = false := decide_eq_false hu
            generalize us.getD j 0 = y at uj b2 hu
            generalize us.getD i 0 = z at ui b2 hu
            clear hjm hx zi hget hlt
            go_wp2_with fail
            go_quiet (fail)
            go_wp2_with fail
            go_roundw
            case rel => exact ⟨i + 1, _, hlt', by go_num, rfl, hM2, k1.drewN _⟩
            case measure => have : i < n := hlt'; simp [intOf]; omega
      · have b1 : (s.ex.getD i 0 == lba) = false := by rw [beq_eq_false_iff_ne]; exact hx
        have hM2 : Hid (MxI s.ex us lba (i + 1) r) := mx_skip hM (by rw [hget]; intro e; injection e with e; exact hx e)
        generalize s.ex.getD i 0 = x at ci b1
        clear hM hx zi hget hlt
        go_wp2_with fail
        go_quiet (fail)
        go_wp2_with fail
        go_roundw
        case rel => exact ⟨i + 1, _, hlt', by go_num, rfl, hM2, k1.drewN _⟩
        case measure => have : i < n := hlt'; simp [intOf]; omega
    · have di : ¬ (i : Int) < (n : Int) := by omega
      obtain rfl : i = n := by omega
      have R1 := hR.more k1
      have hz3 := R1.z3
      have R2 := R1.s4 (now + 1)
      have KB : Keep (RhB p g1 g2 g3) w (wr.setCell ⟨p, 3, none⟩ (.int .i64 (now + 1))) := kp (k1.mono (fun _ _ e => e.elim)) (Or.inl rfl) 3 _
      obtain ⟨y3, f3⟩ := hz3
      clear R1 hlt zi hR hZ
      generalize hwq : wr.setCell ⟨p, 3, none⟩ (.int .i64 (now + 1)) = wq at R2 KB
      have dni : (i : Int) < 4294967296 := by omega
      rcases hM with ⟨rfl, hM⟩ | ⟨j, rfl, hj, hjx, hjm⟩
      · have hhit : s.hit lba = none := hit_no hO hM
        have hlen : Hid (s.len lba = 1) := by show _ = _; unfold St.len; rw [hhit]
        have hpos0 : Hid (s.pos lba = s.od.headD 0) := by show _ = _; unfold St.pos; rw [hhit]; rfl
        have hSO : Hid (Stp us now s i ∧ s.Ok i) := ⟨hS, hO⟩
        have q0 := R2.z0
        have q1 := R2.z1
        rw [show s.ex.length = i from hq1] at q0
        rw [show us.length = i from hq2] at q1
        have qi : ∀ k, k < i → wq.cell? ⟨g2, k, none⟩ = some (.int .i64 (us.getD k 0)) := fun k hk => (R2.e2 (by rw [show us.length = i from hq2]; exact hk)).1
        have qi : Hid (∀ wx, Keep (fun _ => False) wq wx → (wx.cell? ⟨p, 0, none⟩ = some (.slice (some ⟨g1, 0, none⟩) i c1) ∧ wx.cell? ⟨p, 1, none⟩ = some (.slice (some ⟨g2, 0, none⟩) i c2)) ∧ ∀ k, k < i → wx.cell? ⟨g2, k, none⟩ = some (.int .i64 (us.getD k 0))) := fun wx k => by
          have h := R2.more k
          have h0 := h.z0
          have h1 := h.z1
          rw [show s.ex.length = i from hq1] at h0
          rw [show us.length = i from hq2] at h1
          exact ⟨⟨h0, h1⟩, fun k hk => (h.e2 (by rw [show us.length = i from hq2]; exact hk)).1⟩
        clear hM hhit hS hO
        go_wp2_with fail
        try rw [hwq]
        clear q0 q1
        go_loopw [7, 9] (fun av iv wx => ∃ (k j : Nat), k ≤ i ∧ iv = .int .i64 (k : Int) ∧ av = .int .i64 (j : Int) ∧ MnI us k j ∧ Keep (fun _ => False) wq wx) (fun _ iv _ => i - (intOf iv).toNat)
        case atStart => exact ⟨1, 0, by omega, rfl, rfl, mn_one us, Keep.refl _ _⟩
        case round =>
          obtain ⟨k, j, hk, rfl, rfl, hMn, k2⟩ := hrel
          obtain ⟨⟨u0, u1⟩, ui⟩ := (show ∀ wx, _ → _ from qi) _ k2
          by_cases hlt : k < i
          · have dk : (k : Int) < (i : Int) := by omega
            have dw := wrapI (x := (k : Int) + 1) (by omega) (by omega)
            have hlt' : Hid (k < i) := hlt
            have hj := hMn.1
            have dj : (j : Int) < (i : Int) := by omega
            have uk := ui k hlt
            have uj := ui j (by omega)
            by_cases hu : us.getD k 0 < us.getD j 0
            · have hM2 : Hid (MnI us (k + 1) k) := mn_less hMn hu
              have b2 : decide (us.getD k 0 < us.getD j 0) = true := decide_eq_true hu
              generalize us.getD j 0 = y at uj b2 hu
              generalize us.getD k 0 = z at uk b2 hu
              clear ui hlt hMn
              go_wp2_with fail
              go_quiet (fail)
              go_wp2_with fail
              go_roundw
              case rel => exact ⟨k + 1, k, hlt', by go_num, rfl, hM2, k2.drewN _⟩
              case measure => have : k < i := hlt'; simp [intOf]; omega
            · have hM2 : Hid (MnI us (k + 1) j) := mn_more hMn hu
              have b2 : decide (us.getD k 0 < us.getD j 0) = false := decide_eq_false hu
              generalize us.getD j 0 = y at uj b2 hu
              generalize us.getD k 0 = z at uk b2 hu
              clear ui hlt hMn
              go_wp2_with fail
              go_quiet (fail)
              go_wp2_with fail
              go_roundw
              case rel => exact ⟨k + 1, j, hlt', by go_num, rfl, hM2, k2.drewN _⟩
              case measure => have : k < i := hlt'; simp [intOf]; omega
          · obtain rfl : k = i := by omega
            have dk : ¬ (k : Int) < (k : Int) := by omega
            have hj : j < k := hMn.1
            have hpos : Hid (s.pos lba = j) := by
              show _ = _
              rw [show s.pos lba = _ from hpos0]
              exact head_of (show Stp us now s k ∧ s.Ok k from hSO).1 (show Stp us now s k ∧ s.Ok k from hSO).2 hj hMn.2
            have dj : (j : Int) < (k : Int) := by omega
            have Rq := R2.more k2
            have KB := KB.trans (k2.mono (fun _ _ e => e.elim))
            have v2 := Rq.z2
            rw [show s.lg.length = k from hq3] at v2
            obtain ⟨v4, f5⟩ := Rq.e3 (i := j) (by rw [show s.lg.length = k from hq3]; exact hj)
            have R6 := Rq.s3 j 0
            have KB6 := kp KB (b := g3) (by unfold RhB; omega) j (.int .i64 0)
            clear ui hlt hMn hSO hpos0 qi R2 Rq KB k2
            go_upto_region 16 with fail
            generalize wr.setCell ⟨g3, j, none⟩ (.int .i64 0) = wq at R6 KB6 ⊢
            have Rq := R6
            have KB := KB6
            have hV : (s.lg.set j 0).getD j 0 = 0 := by rw [getD_set _ _ _ _ (by rw [show s.lg.length = k from hq3]; exact hj), if_pos rfl]
            clear R6 KB6 v2 v4 f5 u0 u1
            have y2 := Rq.z2
            rw [show (s.lg.set j 0).length = k by first | exact hq3 | (rw [List.length_set]; exact hq3)] at y2
            obtain ⟨y4, f4⟩ := Rq.e3 (i := j) (by first | (rw [show s.lg.length = k from hq3]; exact hj) | (rw [List.length_set, show s.lg.length = k from hq3]; exact hj))
            rw [hV] at y4
            have R3 := Rq.s3 j (1)
            have KB3 := kp KB (b := g3) (by unfold RhB; omega) j (.int .i64 (1))
            clear Rq KB
            go_upto_region 17 with fail
            generalize wq.setCell ⟨g3, j, none⟩ (.int .i64 (1)) = w3 at R3 KB3 ⊢
            clear y2 y4 f4 wq
            have y1 := R3.z1
            rw [show us.length = k from hq2] at y1
            obtain ⟨y3, -⟩ := R3.z3
            obtain ⟨y4, f4⟩ := R3.e2 (i := j) (by rw [show us.length = k from hq2]; exact hj)
            have R4 := (R3.s2 j (now + 1)).more ((Keep.refl (fun _ => False) _).drew)
            have KB4 := (kp KB3 (b := g2) (by unfold RhB; omega) j (.int .i64 (now + 1))).drew
            clear R3 KB3
            go_region
            generalize (w3.setCell ⟨g2, j, none⟩ (.int .i64 (now + 1))).drew = w4 at R4 KB4 ⊢
            clear y1 y3 y4 f4 w3
            have y1 := R4.z0
            rw [show s.ex.length = k from hq1] at y1
            obtain ⟨y4, f4⟩ := R4.e1 (i := j) (by rw [show s.ex.length = k from hq1]; exact hj)
            have R5 := R4.s1 j (lba + m)
            have KB5 := kp KB4 (b := g1) (by unfold RhB; omega) j (.int .i64 (lba + m))
            clear R4 KB4
            go_wp2_with fail
            go_ret
            refine ⟨by rw [show s.pos lba = j from hpos]; rfl, ?_, KB5⟩
            unfold St.feed
            rw [show s.pos lba = j from hpos, show s.len lba = 1 from hlen]
            rw [List.set_set] at R5; exact R5
      · have hhit : s.hit lba = some j := hit_of hS hO hc.1 hjx hjm
        have hpos : Hid (s.pos lba = j) := by show _ = _; unfold St.pos; rw [hhit]; rfl
        have hlg' := hlg j
        obtain ⟨V, hV⟩ : ∃ V, s.lg.getD j 0 = V := ⟨_, rfl⟩
        have hlen : Hid (s.len lba = V + 1) := by show _ = _; unfold St.len; rw [hhit]; simp only [hV]
        rw [hV] at hlg'
        have dV := wrapI (x := V + 1) (by omega) (by omega)
        have dj : (j : Int) < (i : Int) := by omega
        have dj0 : ¬ (j : Int) < 0 := by omega
        have Rq := R2
        clear hjm hhit hS hO R2 hjx hlg hlg'
        go_upto_region 16 with fail
        try rw [hwq]
        clear hwq y3 f3 z0 z1
        have y2 := Rq.z2
        rw [show (s.lg).length = i by first | exact hq3 | (rw [List.length_set]; exact hq3)] at y2
        obtain ⟨y4, f4⟩ := Rq.e3 (i := j) (by first | (rw [show s.lg.length = i from hq3]; exact hj) | (rw [List.length_set, show s.lg.length = i from hq3]; exact hj))
        rw [hV] at y4
        have R3 := Rq.s3 j (V + 1)
        have KB3 := kp KB (b := g3) (by unfold RhB; omega) j (.int .i64 (V + 1))
        clear Rq KB
        go_upto_region 17 with fail
        generalize wq.setCell ⟨g3, j, none⟩ (.int .i64 (V + 1)) = w3 at R3 KB3 ⊢
        clear y2 y4 f4 wq
        have y1 := R3.z1
        rw [show us.length = i from hq2] at y1
        obtain ⟨y3, -⟩ := R3.z3
        obtain ⟨y4, f4⟩ := R3.e2 (i := j) (by rw [show us.length = i from hq2]; exact hj)
        have R4 := (R3.s2 j (now + 1)).more ((Keep.refl (fun _ => False) _).drew)
        have KB4 := (kp KB3 (b := g2) (by unfold RhB; omega) j (.int .i64 (now + 1))).drew
        clear R3 KB3
        go_region
        generalize (w3.setCell ⟨g2, j, none⟩ (.int .i64 (now + 1))).drew = w4 at R4 KB4 ⊢
        clear y1 y3 y4 f4 w3
        have y1 := R4.z0
        rw [show s.ex.length = i from hq1] at y1
        obtain ⟨y4, f4⟩ := R4.e1 (i := j) (by rw [show s.ex.length = i from hq1]; exact hj)
        have R5 := R4.s1 j (lba + m)
        have KB5 := kp KB4 (b := g1) (by unfold RhB; omega) j (.int .i64 (lba + m))
        clear R4 KB4
        go_wp2_with fail
        go_ret
        refine ⟨by rw [show s.pos lba = j from hpos]; rfl, ?_, KB5⟩
        unfold St.feed
        rw [show s.pos lba = j from hpos, show s.len lba = V + 1 from hlen]
        exact R5
end Tg
end Go.Proofs.Ythfbfepaoknmfaa
