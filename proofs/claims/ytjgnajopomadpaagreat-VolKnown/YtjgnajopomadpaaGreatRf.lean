/-
  The law's own tells: a store tells what the sectors have.
-/
import Derived.Test.YtjgnajopomadpaaGreatRe
namespace Go.Proofs.YtjgnajopomadpaaGreat
open Go.ChangeShapes Go.WideShapes Go.ChangeAt Go.RowKit
namespace Tg
open Qm Crc
theorem own_rd {B : Nat} {e : TypeId} {sz : Nat} {w : World} {a : Option Addr} {n cap : Nat} {xs : List Value} (h : w.ownsRow B e sz (.slice a n cap) n xs) : Rd w a xs := by
  have hl := h.1
  rcases h.2 with ⟨_, hn⟩ | ⟨g, c, cur, e1, hb, hh, h1, h2, h3, h4⟩
  · left
    exact List.eq_nil_of_length_eq_zero (by rw [hl, hn]; simp)
  · injection e1 with e1 e2 e3
    subst e1
    refine Or.inr ⟨g, 0, rfl, fun j u hu => ?_⟩
    have hj : cur.toList[j]? = some u := by
      rw [← h4] at hu
      rw [List.getElem?_take] at hu
      split at hu
      · exact hu
      · cases hu
    simp only [World.cell?, hh, Nat.zero_add]
    simpa using hj
theorem own_er {B cap : Nat} {w : World} {a : Option Addr} {V : List En} (h : w.ownsRow B 91 4 (.slice a V.length cap) V.length (eCs V)) : Er w a V := by
  intro k x hx
  have hk := eCs_at hx
  rcases own_rd h with h0 | ⟨g, o, e, hc⟩
  · have := hk 0 (by omega)
    rw [h0] at this
    simp [enA] at this
  · exact ⟨g, o, e, hc _ _ (hk 0 (by omega)), hc _ _ (hk 1 (by omega)), hc _ _ (hk 2 (by omega)), hc _ _ (hk 3 (by omega))⟩
/-- What a list of a program's entries reads, from i on. -/
def Frm (V : List En) (i : Nat) (xs : List Value) : Prop := ∀ k e, i ≤ k → V[k]? = some e → ∀ j, j < 3 → xs[k * 3 + j]? = [Value.string (strOfNums e.nm), .int .i64 e.f, .int .i64 e.n][j]?
section
variable {SV : (Nat → Prop) → World → Nat → Nat → Nat → List Int → (Nat → Option En) → Prop}
set_option maxRecDepth 100000 in
set_option maxHeartbeats 8000000 in
theorem tells25 (H : StOk SV) {G : Nat → Prop} {w0 w : World} {q p N : Nat} {l : List Int} {s : Nat → Option En} (h : Vf SV G w0 w q p N l s) (hv : volL N l = lst s) :
    Calls Tryz.prog 20 #[Ptr q, .string (strOfNums l)] w fun e w' => e = .returned (.bool true) ∧ Keep (fun _ => False) w w' := by
  have hds := vf_ds H h
  have c1 := vf_vols H h
  have c2 := fun w => volumes25 hds.b8 hds.len hds.N9 w
  have c4 := fun w => free25 hds.b8 hds.len hds.N9 w
  have h8 : (lst s).length ≤ 8 := by rw [← hv]; exact (volK_ok hds.b8 hds.len (by have := hds.N9; omega) 8 (Nat.le_refl _)).1
  rw [hv] at c2 c4
  obtain ⟨n, hn⟩ : ∃ n, n = (lst s).length := ⟨_, rfl⟩
  have hn' : RowKit.Hid (n = (lst s).length ∧ n ≤ 8) := ⟨hn, by omega⟩
  obtain ⟨T, hT⟩ : ∃ T, T = strOfNums l := ⟨_, rfl⟩
  rw [← hT] at c2 c4 ⊢
  rw [← hn] at c2
  obtain ⟨F, hF⟩ : ∃ F : Int, F = N - 8 - lensF (lst s) := ⟨_, rfl⟩
  have c3 := fun (w' : World) (k : Keep (fun _ => False) w w') => vf_free H (h.more H k)
  rw [← hF] at c3 c4
  have c3 : RowKit.Hid (∀ (w' : World), Keep (fun _ => False) w w' → Calls Tryz.prog 26 #[Ptr q] w' fun e w2 => e = .returned (.int .i64 F) ∧ Vf SV G w0 w2 q p N l s ∧ Keep (fun _ => False) w' w2) := c3
  have c2 : RowKit.Hid (∀ (w : World), Calls Tryz.prog 44 #[.string T] w fun e w' => ∃ a cap, e = .returned (.slice a n cap) ∧ Ev w w' a cap (lst s)) := c2
  have c4 : RowKit.Hid (∀ (w : World), Calls Tryz.prog 45 #[.string T] w fun e w' => e = .returned (.int .i64 F) ∧ Keep (fun _ => False) w w') := c4
  clear hF hT hn hv hds h8
  go_enter Tryz.func20, Tryz.ntmps20
  go_wp2_with fail
  refine c1.mono ?_
  rintro e w2 ⟨a, c, n1, rfl, hn1, R1⟩
  have e1 : n1 = n := by rw [hn1, hn'.out.1]
  subst e1
  have K2 : RowKit.Hid (Keep (fun _ => False) w w2) := R1.keep
  have d2 := c2.out w2
  clear c1 hn1
  go_wp2_with fail
  refine d2.mono ?_
  rintro e w3 ⟨a2, c5, rfl, E1⟩
  have K3 : RowKit.Hid (Keep (fun _ => False) w w3) := K2.out.trans E1.keep
  have d3 := c3.out w3 K3.out
  have R1' : RowKit.Hid (w3.ownsRow w.heap.size 53 3 (.slice a n1 c) n1 (vCs (lst s))) := by
    have := (Gw.more R1 E1.keep).own
    rw [← hn'.out.1] at this
    exact this
  have E1' : RowKit.Hid (w3.ownsRow w2.heap.size 91 4 (.slice a2 (lst s).length c5) (lst s).length (eCs (lst s))) := E1.own
  have hlo : RowKit.Hid (∀ g o, a = some ⟨g, o, none⟩ → g < w2.heap.size) := fun g o e => by
    rcases R1.own.2 with ⟨e', -⟩ | ⟨g', c', cur, e', hb, hh, -⟩
    · injection e' with e'; rw [e] at e'; cases e'
    · injection e' with e'
      rw [e] at e'
      injection e' with e'
      injection e' with e'
      subst e'
      by_cases hg : g < w2.heap.size
      · exact hg
      · simp [Array.getElem?_eq_none (Nat.le_of_not_lt hg)] at hh
  clear R1 E1 d2 K2 c2 c3
  go_wp2_with fail
  refine d3.mono ?_
  rintro e w4 ⟨rfl, -, k4⟩
  have d4 := c4.out w4
  clear d3 c4
  go_wp2_with fail
  refine d4.mono ?_
  rintro e w5 ⟨rfl, k5⟩
  have K5 : RowKit.Hid (Keep (fun _ => False) w w5) := K3.out.trans (k4.trans k5)
  have R5 : RowKit.Hid (w5.ownsRow w.heap.size 53 3 (.slice a n1 c) n1 (vCs (lst s))) := own_keep R1'.out (k4.trans k5) (fun _ _ e => e)
  have E5 : RowKit.Hid (w5.ownsRow w2.heap.size 91 4 (.slice a2 (lst s).length c5) (lst s).length (eCs (lst s))) := own_keep E1'.out (k4.trans k5) (fun _ _ e => e)
  clear d4 k4 k5 R1' E1' K3
  go_wp2_with fail
  go_loopw [7] (fun v wx => ∃ (i : Nat) (xs : List Value), v = .int .i64 (i : Int) ∧ RowKit.Hid (i ≤ n1 ∧ Frm (lst s) i xs) ∧ RowKit.Hid (Keep (fun _ => False) w wx ∧ wx.ownsRow w.heap.size 53 3 (.slice a n1 c) n1 xs ∧ wx.ownsRow w2.heap.size 91 4 (.slice a2 (lst s).length c5) (lst s).length (eCs (lst s)))) (fun v _ => n1 - (intOf v).toNat)
  case atStart => exact ⟨0, _, rfl, ⟨by omega, fun k e _ hk j hj => vCs_at hk j hj⟩, K5.out, R5.out, E5.out⟩
  case round =>
    clear K5 R5 E5
    obtain ⟨i, xs, rfl, hi, hM⟩ := hrel
    by_cases him : i = n1
    · have hge : ¬ (i : Int) < n1 := by omega
      have hK : RowKit.Hid (Keep (fun _ => False) w wr) := hM.out.1
      clear hi hM him hlo hn'
      go_wp2_with fail
      go_ret
      exact ⟨rfl, hK⟩
    · have hlt : (i : Int) < n1 := by have := hi.out.1; omega
      obtain ⟨x, hx⟩ : ∃ x, (lst s)[i]? = some x := ⟨_, List.getElem?_eq_getElem (by have := hn'.out; have := hi.out.1; omega)⟩
      have hf := hi.out.2 i x (Nat.le_refl _) hx
      have f0 := hf 0 (by omega)
      have f1 := hf 1 (by omega)
      have f2 := hf 2 (by omega)
      rcases hM.out.2.1.2 with ⟨e', h0⟩ | ⟨g, c', cur, e', hb, hh, hnc, hcm, hcs, htk⟩
      · exfalso; have := hi.out.1; omega
      · injection e' with ea _ ec
        subst ec
        have ow : wr.ownsRow w.heap.size 53 3 (.slice (some ⟨g, 0, none⟩) n1 c) n1 xs := by rw [← ea]; exact hM.out.2.1
        have hgl := hlo.out g 0 ea
        have z0 : wr.cell? ⟨g, i * 3, none⟩ = some (.string (strOfNums x.nm)) := by rw [World.ownsRow.cellAt ow _ (by omega)]; simpa using f0
        have z1 : wr.cell? ⟨g, i * 3 + 1, none⟩ = some (.int .i64 x.f) := by rw [World.ownsRow.cellAt ow _ (by omega)]; exact f1
        have z2 : wr.cell? ⟨g, i * 3 + 2, none⟩ = some (.int .i64 x.n) := by rw [World.ownsRow.cellAt ow _ (by omega)]; exact f2
        have zf : ∀ m, (wr.drewN m).frozen? ⟨g, i * 3 + 2, none⟩ = false := fun m => World.ownsRow.frozenAt ow _
        obtain ⟨g2, o2, ea2, y0, y1, y2, -⟩ := own_er hM.out.2.2 i x hx
        have hdi : IntKind.i64.wrap ((i : Int) + 1) = ((i + 1 : Nat) : Int) := by rw [show (i : Int) + 1 = ((i + 1 : Nat) : Int) by omega]; exact wrapI (by omega) (by have := hn'.out; omega)
        have hnx : ∀ m, RowKit.Hid (Keep (fun _ => False) w ((wr.drewN m).setCell ⟨g, i * 3 + 2, none⟩ (.int .i64 99)) ∧ ((wr.drewN m).setCell ⟨g, i * 3 + 2, none⟩ (.int .i64 99)).ownsRow w.heap.size 53 3 (.slice a n1 c) n1 (xs.set (i * 3 + 2) (.int .i64 99)) ∧ ((wr.drewN m).setCell ⟨g, i * 3 + 2, none⟩ (.int .i64 99)).ownsRow w2.heap.size 91 4 (.slice a2 (lst s).length c5) (lst s).length (eCs (lst s))) := fun m => by
          have kd : Keep (fun _ => False) wr (wr.drewN m) := (Keep.refl _ _).drewN m
          have ks : Keep (fun b => b = g) (wr.drewN m) ((wr.drewN m).setCell ⟨g, i * 3 + 2, none⟩ (.int .i64 99)) := Keep.setCell (S := fun b => b = g) (Keep.refl _ _) (p := ⟨g, i * 3 + 2, none⟩) (Or.inl rfl) _
          refine ⟨(hM.out.1.trans kd).next ks (fun y hy e => by omega), ?_, own_keep (own_keep hM.out.2.2 kd (fun _ _ e => e)) ks (fun b hb e => by omega)⟩
          rw [ea]
          exact (World.ownsRow.stored (own_keep ow kd (fun _ _ e => e)) _ _).1
        have hin : RowKit.Hid (i + 1 ≤ n1 ∧ Frm (lst s) (i + 1) (xs.set (i * 3 + 2) (.int .i64 99))) := ⟨by have := hi.out.1; omega, fun k e hk he j hj => by
          rw [List.getElem?_set_ne (by omega)]
          exact hi.out.2 k e (by omega) he j hj⟩
        have hil : RowKit.Hid (i < n1) := by have := hi.out.1; show i < n1; omega
        clear hi hM him hlo hn' hx hf f0 f1 f2 hh hcs htk ow hgl hnc hcm
        subst ea
        subst ea2
        generalize strOfNums x.nm = xs0 at *
        go_upto_region 8 with fail
        go_quiet (fail)
        go_wp2_with fail
        go_roundw
        case rel => exact ⟨i + 1, _, rfl, hin, hnx _⟩
        case measure => have := hil.out; simp [intOf]; omega
end
end Tg
end Go.Proofs.YtjgnajopomadpaaGreat
