/-
  The statement's own look at the views: hangs tells a branch's height where the views are a balanced tree's.
-/
import Derived.Test.YtobljchpphcolaaCleared
namespace Go.Proofs.Ytobljchpphcolaa
open Go.ChangeShapes Go.WideShapes Go.ChangeAt Go.RowKit
namespace Tg

set_option maxRecDepth 100000 in
/-- The cells of a view of a row. -/
theorem view_cells {w : World} {G N : Nat} {V : List Vw} (h : Rw w G N (vcells V)) {q : Nat} {v : Vw} (hv : V[q]? = some v) :
    w.cell? ⟨G, q * 7, none⟩ = some (.int .u32 (v.id : Int)) ∧ w.cell? ⟨G, q * 7 + 1, none⟩ = some (.int .u32 (v.left : Int)) ∧ w.cell? ⟨G, q * 7 + 2, none⟩ = some (.int .u32 (v.right : Int)) ∧ w.cell? ⟨G, q * 7 + 3, none⟩ = some (.int .i64 v.h) ∧
    w.cell? ⟨G, q * 7 + 4, none⟩ = some (.int .i64 v.x.lba) ∧ w.cell? ⟨G, q * 7 + 5, none⟩ = some (.int .i64 v.x.len) ∧ w.cell? ⟨G, q * 7 + 6, none⟩ = some (.int .i64 v.x.phys) :=
  ⟨h.cells (q * 7 + 0) _ (by rw [vcells_at hv 0 (by omega)]; rfl), h.cells (q * 7 + 1) _ (by rw [vcells_at hv 1 (by omega)]; rfl), h.cells (q * 7 + 2) _ (by rw [vcells_at hv 2 (by omega)]; rfl), h.cells (q * 7 + 3) _ (by rw [vcells_at hv 3 (by omega)]; rfl),
    h.cells (q * 7 + 4) _ (by rw [vcells_at hv 4 (by omega)]; rfl), h.cells (q * 7 + 5) _ (by rw [vcells_at hv 5 (by omega)]; rfl), h.cells (q * 7 + 6) _ (by rw [vcells_at hv 6 (by omega)]; rfl)⟩
theorem Tr.views_ids (t : Tr) : t.views.map (·.id) = t.ids := by
  have := congrArg (List.map (·.1)) t.views_seq
  rw [List.map_map] at this
  exact this

set_option maxRecDepth 100000 in
set_option maxHeartbeats 4000000 in
/-- Found at its place: what is answered hangs on the two branches' answers. -/
theorem hangs_node {w : World} {G n F P T i ll rr : Nat} {M lh rh : Int} (hn : n ≤ 512) (hT : T ≤ n) (hFP : F ≤ P) (hPT : P < T)
    (hbef : ∀ q, F ≤ q → q < P → ∃ c, w.cell? ⟨G, q * 7, none⟩ = some (.int .u32 ((c : Nat) : Int)) ∧ c ≠ i)
    (c0 : w.cell? ⟨G, P * 7, none⟩ = some (.int .u32 (i : Int))) (c1 : w.cell? ⟨G, P * 7 + 1, none⟩ = some (.int .u32 (ll : Int))) (c2 : w.cell? ⟨G, P * 7 + 2, none⟩ = some (.int .u32 (rr : Int))) (c3 : w.cell? ⟨G, P * 7 + 3, none⟩ = some (.int .i64 M))
    (hL : F < P → 1 ≤ lh ∧ Calls Try.prog 47 #[.slice (some ⟨G, 0, none⟩) n n, .int .i64 (F : Int), .int .i64 (P : Int), .int .u32 (ll : Int)] w fun e w' => e = .returned (.int .i64 lh) ∧ w' = w)
    (hL0 : ¬ F < P → lh = 0) (hll : F < P ↔ ll ≠ 0)
    (hR : P + 1 < T → 1 ≤ rh ∧ Calls Try.prog 47 #[.slice (some ⟨G, 0, none⟩) n n, .int .i64 ((P : Int) + 1), .int .i64 (T : Int), .int .u32 (rr : Int)] w fun e w' => e = .returned (.int .i64 rh) ∧ w' = w)
    (hR0 : ¬ P + 1 < T → rh = 0) (hrr : P + 1 < T ↔ rr ≠ 0) (b1 : lh ≤ rh + 1) (b2 : rh ≤ lh + 1) (b3 : lh ≤ 512) (b4 : rh ≤ 512) (b5 : 0 ≤ lh) (b6 : 0 ≤ rh) (hM : M = max lh rh + 1) :
    Calls Try.prog 47 #[.slice (some ⟨G, 0, none⟩) n n, .int .i64 (F : Int), .int .i64 (T : Int), .int .u32 (i : Int)] w fun e w' => e = .returned (.int .i64 M) ∧ w' = w := by
  have d0 : (n : Int) ≤ 9223372036854775807 := by omega
  go_enter Try.func47, Try.ntmps47
  go_wp2_with fail
  go_loopw [9] (fun c wr => ∃ q : Nat, F ≤ q ∧ q ≤ P ∧ c = .int .i64 (q : Int) ∧ w = wr) (fun c _ => P - (intOf c).toNat)
  case atStart => exact ⟨F, Nat.le_refl _, hFP, rfl, rfl⟩
  case round =>
    obtain ⟨q, hq1, hq2, rfl, rfl⟩ := hrel
    have dqT : (q : Int) < (T : Int) := by omega
    have dqn : (q : Int) < (n : Int) := by omega
    by_cases hlt : q < P
    · obtain ⟨c, cc, hc⟩ := hbef q hq1 hlt
      have dc : ((c : Int) == (i : Int)) = false := by simp; omega
      have dq1 : IntKind.i64.wrap ((q : Int) + 1) = (q : Int) + 1 := by rw [IntKind.wrap_i64] <;> omega
      have hlt' : Hid (q < P) := hlt
      clear hL hR hL0 hR0 hll hrr c0 c1 c2 c3 hM b1 b2 b3 b4 b5 b6 hbef hlt hc
      go_wp2_with fail
      go_roundw
      case rel => exact ⟨q + 1, by omega, hlt', by go_num, trivial⟩
      case measure => have : q < P := hlt'; simp [intOf]; omega
    · obtain rfl : q = P := by omega
      have dT : IntKind.i64.wrap ((T : Int) - 1) = (T : Int) - 1 := by rw [IntKind.wrap_i64] <;> omega
      have dq1 : IntKind.i64.wrap ((q : Int) + 1) = (q : Int) + 1 := by rw [IntKind.wrap_i64] <;> omega
      have ds1 : IntKind.i64.wrap (lh - rh) = lh - rh := by rw [IntKind.wrap_i64] <;> omega
      have ds2 : IntKind.i64.wrap (rh - lh) = rh - lh := by rw [IntKind.wrap_i64] <;> omega
      have dm1 : IntKind.i64.wrap (lh + 1) = lh + 1 := by rw [IntKind.wrap_i64] <;> omega
      have dm2 : IntKind.i64.wrap (rh + 1) = rh + 1 := by rw [IntKind.wrap_i64] <;> omega
      have dk1 : ¬ (1 : Int) < lh - rh := by omega
      have dk2 : ¬ (1 : Int) < rh - lh := by omega
      have hMe : Hid (M = max lh rh + 1) := hM
      clear hbef hq1 hq2 hlt hM
      by_cases e1 : F < q
      · by_cases e2 : q + 1 < T
        · obtain ⟨l1, cl⟩ := hL e1
          have dF : (F : Int) < (q : Int) := by omega
          have dll : ((ll : Int) == 0) = false := by have := hll.1 e1; simp; omega
          have dll2 : ((ll : Int) != 0) = true := by have := hll.1 e1; simp; omega
          have dlh : (lh == 0) = false := by simp; omega
          obtain ⟨r1, cr⟩ := hR e2
          have dR : (q : Int) < (T : Int) - 1 := by omega
          have drr : ((rr : Int) == 0) = false := by have := hrr.1 e2; simp; omega
          have drr2 : ((rr : Int) != 0) = true := by have := hrr.1 e2; simp; omega
          have drh : (rh == 0) = false := by simp; omega
          clear hL hR hL0 hR0 hll hrr
          by_cases hb : lh < rh
          · have hv : M = rh + 1 := by rw [(show M = max lh rh + 1 from hMe)]; omega
            rw [hv] at c3
            subst hv
            have dx1 : IntKind.i64.wrap (-rh) = -rh := by rw [IntKind.wrap_i64] <;> omega
            have dx2 : IntKind.i64.wrap (-lh) = -lh := by rw [IntKind.wrap_i64] <;> omega
            have dx3 : IntKind.i64.wrap lh = lh := by rw [IntKind.wrap_i64] <;> omega
            have dx4 : IntKind.i64.wrap rh = rh := by rw [IntKind.wrap_i64] <;> omega
            have dx5 : ¬ (1 : Int) < -rh := by omega
            have dx6 : ¬ (1 : Int) < -lh := by omega
            clear hMe
            go_wp2_with fail
            refine cl.mono ?_
            rintro e wz ⟨rfl, e0⟩
            have e0 := e0.symm
            subst e0
            go_wp2_with fail
            refine cr.mono ?_
            rintro e wz ⟨rfl, e0⟩
            have e0 := e0.symm
            subst e0
            go_wp2_with fail
            go_ret
            exact ⟨rfl, rfl⟩
          · have hv : M = lh + 1 := by rw [(show M = max lh rh + 1 from hMe)]; omega
            rw [hv] at c3
            subst hv
            have dx1 : IntKind.i64.wrap (-rh) = -rh := by rw [IntKind.wrap_i64] <;> omega
            have dx2 : IntKind.i64.wrap (-lh) = -lh := by rw [IntKind.wrap_i64] <;> omega
            have dx3 : IntKind.i64.wrap lh = lh := by rw [IntKind.wrap_i64] <;> omega
            have dx4 : IntKind.i64.wrap rh = rh := by rw [IntKind.wrap_i64] <;> omega
            have dx5 : ¬ (1 : Int) < -rh := by omega
            have dx6 : ¬ (1 : Int) < -lh := by omega
            clear hMe
            go_wp2_with fail
            refine cl.mono ?_
            rintro e wz ⟨rfl, e0⟩
            have e0 := e0.symm
            subst e0
            go_wp2_with fail
            refine cr.mono ?_
            rintro e wz ⟨rfl, e0⟩
            have e0 := e0.symm
            subst e0
            go_wp2_with fail
            go_ret
            exact ⟨rfl, rfl⟩
        · obtain ⟨l1, cl⟩ := hL e1
          have dF : (F : Int) < (q : Int) := by omega
          have dll : ((ll : Int) == 0) = false := by have := hll.1 e1; simp; omega
          have dll2 : ((ll : Int) != 0) = true := by have := hll.1 e1; simp; omega
          have dlh : (lh == 0) = false := by simp; omega
          obtain rfl := hR0 e2
          have dR : ¬ (q : Int) < (T : Int) - 1 := by omega
          obtain rfl : rr = 0 := by by_cases h : rr = 0; exact h; exact absurd (hrr.2 h) e2
          rw [show ((0 : Nat) : Int) = 0 from rfl] at c2
          clear hL hR hL0 hR0 hll hrr
          have hb : ¬ lh < 0 := by omega
          have hv : M = lh + 1 := by rw [(show M = max lh 0 + 1 from hMe)]; omega
          rw [hv] at c3
          subst hv
          have dx1 : IntKind.i64.wrap (-0) = -0 := by rw [IntKind.wrap_i64] <;> omega
          have dx2 : IntKind.i64.wrap (-lh) = -lh := by rw [IntKind.wrap_i64] <;> omega
          have dx3 : IntKind.i64.wrap lh = lh := by rw [IntKind.wrap_i64] <;> omega
          have dx4 : IntKind.i64.wrap 0 = 0 := by rw [IntKind.wrap_i64] <;> omega
          have dx5 : ¬ (1 : Int) < -0 := by omega
          have dx6 : ¬ (1 : Int) < -lh := by omega
          have dx7 : ¬ (1 : Int) < lh := by omega
          clear hMe
          go_wp2_with fail
          refine cl.mono ?_
          rintro e wz ⟨rfl, e0⟩
          have e0 := e0.symm
          subst e0
          go_wp2_with fail
          go_ret
          exact ⟨rfl, rfl⟩
      · by_cases e2 : q + 1 < T
        · obtain rfl := hL0 e1
          have dF : ¬ (F : Int) < (q : Int) := by omega
          obtain rfl : ll = 0 := by by_cases h : ll = 0; exact h; exact absurd (hll.2 h) e1
          rw [show ((0 : Nat) : Int) = 0 from rfl] at c1
          obtain ⟨r1, cr⟩ := hR e2
          have dR : (q : Int) < (T : Int) - 1 := by omega
          have drr : ((rr : Int) == 0) = false := by have := hrr.1 e2; simp; omega
          have drr2 : ((rr : Int) != 0) = true := by have := hrr.1 e2; simp; omega
          have drh : (rh == 0) = false := by simp; omega
          clear hL hR hL0 hR0 hll hrr
          have hb : 0 < rh := by omega
          have hv : M = rh + 1 := by rw [(show M = max 0 rh + 1 from hMe)]; omega
          rw [hv] at c3
          subst hv
          have dx1 : IntKind.i64.wrap (-rh) = -rh := by rw [IntKind.wrap_i64] <;> omega
          have dx2 : IntKind.i64.wrap (-0) = -0 := by rw [IntKind.wrap_i64] <;> omega
          have dx3 : IntKind.i64.wrap 0 = 0 := by rw [IntKind.wrap_i64] <;> omega
          have dx4 : IntKind.i64.wrap rh = rh := by rw [IntKind.wrap_i64] <;> omega
          have dx5 : ¬ (1 : Int) < -rh := by omega
          have dx6 : ¬ (1 : Int) < -0 := by omega
          have dx8 : ¬ (1 : Int) < rh := by omega
          clear hMe
          go_wp2_with fail
          refine cr.mono ?_
          rintro e wz ⟨rfl, e0⟩
          have e0 := e0.symm
          subst e0
          go_wp2_with fail
          go_ret
          exact ⟨rfl, rfl⟩
        · obtain rfl := hL0 e1
          have dF : ¬ (F : Int) < (q : Int) := by omega
          obtain rfl : ll = 0 := by by_cases h : ll = 0; exact h; exact absurd (hll.2 h) e1
          rw [show ((0 : Nat) : Int) = 0 from rfl] at c1
          obtain rfl := hR0 e2
          have dR : ¬ (q : Int) < (T : Int) - 1 := by omega
          obtain rfl : rr = 0 := by by_cases h : rr = 0; exact h; exact absurd (hrr.2 h) e2
          rw [show ((0 : Nat) : Int) = 0 from rfl] at c2
          clear hL hR hL0 hR0 hll hrr
          have hv : M = 0 + 1 := by rw [(show M = max 0 0 + 1 from hMe)]; omega
          rw [hv] at c3
          subst hv
          have dx1 : IntKind.i64.wrap (-0) = -0 := by rw [IntKind.wrap_i64] <;> omega
          have dx2 : IntKind.i64.wrap (-0) = -0 := by rw [IntKind.wrap_i64] <;> omega
          have dx3 : IntKind.i64.wrap 0 = 0 := by rw [IntKind.wrap_i64] <;> omega
          have dx4 : IntKind.i64.wrap 0 = 0 := by rw [IntKind.wrap_i64] <;> omega
          have dx5 : ¬ (1 : Int) < -0 := by omega
          have dx6 : ¬ (1 : Int) < -0 := by omega
          have dx7 : ¬ (1 : Int) < 0 := by omega
          have dx8 : ¬ (1 : Int) < 0 := by omega
          clear hMe
          go_wp2_with fail
          go_ret
          exact ⟨rfl, rfl⟩
end Tg
end Go.Proofs.Ytobljchpphcolaa
