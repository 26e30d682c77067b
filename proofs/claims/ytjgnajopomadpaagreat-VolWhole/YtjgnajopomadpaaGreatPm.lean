/-
  The document's own Rename, Create.
-/
import Derived.Test.YtjgnajopomadpaaGreatPl
namespace Go.Proofs.YtjgnajopomadpaaGreat
open Go.ChangeShapes Go.WideShapes Go.ChangeAt Go.RowKit
namespace Tg
open Qm
theorem load50_at {w : World} {g o : Nat} {v0 v1 v2 v3 : Value} (c0 : w.cell? ⟨g, o, none⟩ = some v0) (c1 : w.cell? ⟨g, o + 1, none⟩ = some v1) (c2 : w.cell? ⟨g, o + 2, none⟩ = some v2) (c3 : w.cell? ⟨g, o + 3, none⟩ = some v3) :
    (Instr.loadAt 91 (.pointer (some ⟨g, o, none⟩))).run Tryz.prog w = .ok (.agg #[v0, v1, v2, v3]) w := by
  obtain ⟨t, h1, h2⟩ := under50
  have := run_loadAt_mid (P := Tryz.prog) w g o 91 [v0, v1, v2, v3] t (fun j v hv => by
    have hj : j < 4 := (List.getElem?_eq_some_iff.1 hv).1
    rcases (by omega : j = 0 ∨ j = 1 ∨ j = 2 ∨ j = 3) with rfl | rfl | rfl | rfl
    · rw [← hv]; exact c0
    · rw [← hv]; exact c1
    · rw [← hv]; exact c2
    · rw [← hv]; exact c3) h1 h2 (by rw [size50]; rfl)
  simpa using this
theorem Ev.at0 {w0 w : World} {a : Option Addr} {cap : Nat} {l : List En} (h : Ev w0 w a cap l) {k : Nat} {x : En} (hx : l[k]? = some x) :
    ∃ g, a = some ⟨g, 0, none⟩ ∧ w0.heap.size ≤ g ∧ g < w.heap.size ∧ (∀ j, w.frozen? ⟨g, j, none⟩ = false) ∧ w.cell? ⟨g, k * 4, none⟩ = some (.string (strOfNums x.nm)) ∧ w.cell? ⟨g, k * 4 + 1, none⟩ = some (.int .i64 x.f) ∧ w.cell? ⟨g, k * 4 + 2, none⟩ = some (.int .i64 x.n) ∧ w.cell? ⟨g, k * 4 + 3, none⟩ = some (.int .i64 x.i) := by
  have hl : 0 < l.length := by have := (List.getElem?_eq_some_iff.1 hx).1; omega
  have ho := h.own
  rcases ho.2 with ⟨_, h0⟩ | ⟨g, c, cur, e1, hb, hh, -⟩
  · omega
  · injection e1 with e1 e2 e3
    subst e1
    obtain ⟨g2, o2, e, z0, z1, z2, z3⟩ := h.at hx
    injection e with e
    injection e with e4 e5
    subst e4; subst e5
    refine ⟨g, rfl, hb, World.block_lt_of_cell? w _ z0, fun j => World.ownsRow.frozenAt ho j, ?_, ?_, ?_, ?_⟩
    · rw [Nat.zero_add] at z0; exact z0
    · rw [Nat.zero_add] at z1; exact z1
    · rw [Nat.zero_add] at z2; exact z2
    · rw [Nat.zero_add] at z3; exact z3
def renameL (N : Nat) (l : List Int) (s t : ByteArray) : List Int × Int := match volOf (volL N l) s with
  | none => (l, 4)
  | some x => if goodS (bs t) = false then (l, 1) else if (volOf (volL N l) t).isSome then (l, 8) else (wrL l x.i.toNat 1 (bytesE (nums t) x.f x.n), 0)
theorem good_len {t : ByteArray} (h : goodS (bs t) = true) : 1 ≤ t.size ∧ t.size ≤ 16 := by
  unfold goodS at h
  rw [bs_len] at h
  simp only [Bool.and_eq_true, decide_eq_true_eq] at h
  exact h.2
set_option maxRecDepth 100000 in
set_option maxHeartbeats 2000000 in
theorem rename25 {l : List Int} (hl8 : B8 l) {N : Nat} (hl : l.length = N * 32) (hN : 9 ≤ N ∧ N ≤ 512) (s t : ByteArray) (ht : t.size ≤ 9223372036854775807) (w : World) :
    Calls Tryz.prog 50 #[.string (strOfNums l), .string s, .string t] w fun e w' => e = .returned (.tuple #[.string (strOfNums (renameL N l s t).1), .int .i64 (renameL N l s t).2]) ∧ Keep (fun _ => False) w w' := by
  have hD : RowKit.Hid (Dk l N (volL N l)) := dk_of hl8 hl hN
  clear hl8 hl hN
  have hGood := rgood25 t ht
  have hgl := good_len (t := t)
  obtain ⟨G, hG⟩ : ∃ G, G = goodS (bs t) := ⟨_, rfl⟩
  obtain ⟨R, hR⟩ : ∃ R, RowKit.Hid (R = renameL N l s t) := ⟨_, rfl⟩
  have hR2 : RowKit.Hid (R = match volOf (volL N l) s with | none => (l, 4) | some x => if goodS (bs t) = false then (l, 1) else if (volOf (volL N l) t).isSome then (l, 8) else (wrL l x.i.toNat 1 (bytesE (nums t) x.f x.n), 0)) := hR
  rw [← hR.out]
  rw [← hG] at hR2 hGood hgl
  clear hR hG ht
  obtain ⟨T, hT⟩ : ∃ T, RowKit.Hid (T = strOfNums l) := ⟨_, rfl⟩
  rw [← hT.out]
  obtain ⟨V, hV⟩ : ∃ V, V = volL N l := ⟨_, rfl⟩
  rw [← hV] at hD hR2
  clear hV
  have hv := hD.out.vol w
  rw [← hT.out] at hv
  go_enter Tryz.func50, Tryz.ntmps50
  go_wp2_with fail
  refine hv.mono ?_
  rintro e w2 ⟨a, cap, rfl, E2⟩
  have E2' : RowKit.Hid (Ev w w2 a cap V) := E2
  have hf := find25 E2.er (by have := hD.out.v8; omega) cap s
  clear hv E2
  obtain ⟨F, hF⟩ : ∃ F, F = findF s V 0 := ⟨_, rfl⟩
  rw [← hF] at hf
  obtain ⟨m, hm⟩ : ∃ m, RowKit.Hid (m = V.length) := ⟨_, rfl⟩
  rw [← hm.out] at hf ⊢
  go_wp2_with fail
  refine hf.mono ?_
  rintro e w3 ⟨rfl, e3⟩
  subst e3
  clear hf
  rcases find_or s V with ⟨h1, h2⟩ | ⟨i, x, h1, h2, h3, h4⟩
  · rw [h1] at hF
    subst hF
    have hRR : RowKit.Hid (R = (l, 4)) := by show R = _; rw [hR2.out, h2]
    have hK : RowKit.Hid (Keep (fun _ => False) w w3) := E2'.out.keep
    clear h1 h2 hR2 hD E2' hGood hgl
    go_wp2_with fail
    go_ret2
    exact ⟨by rw [hRR.out, hT.out]; rfl, hK⟩
  · rw [h1] at hF
    subst hF
    have hR3 : RowKit.Hid (R = if G = false then (l, 1) else if (volOf V t).isSome then (l, 8) else (wrL l x.i.toNat 1 (bytesE (nums t) x.f x.n), 0)) := by show R = _; rw [hR2.out, h3]
    have hge : ¬ (i : Int) < 0 := by omega
    have hil : (i : Int) < m := by have := (List.getElem?_eq_some_iff.1 h2).1; rw [hm.out]; omega
    have hK : RowKit.Hid (Keep (fun _ => False) w w3) := E2'.out.keep
    have hgg := hGood w3
    have hx2 : RowKit.Hid (V[i]? = some x) := h2
    have hil' : RowKit.Hid ((i : Int) < m) := hil
    clear h1 h2 h3 h4 hR2 hGood hil
    cases G with
    | false =>
      have hRR : RowKit.Hid (R = (l, 1)) := hR3
      clear hD E2' hm hgl hx2 hil' hR3
      go_wp2_with fail
      refine hgg.mono ?_
      rintro e w4 ⟨rfl, e4⟩
      subst e4
      clear hgg
      go_wp2_with fail
      go_ret2
      exact ⟨by rw [hRR.out, hT.out]; rfl, hK⟩
    | true =>
      have hR4 : RowKit.Hid (R = if (volOf V t).isSome then (l, 8) else (wrL l x.i.toNat 1 (bytesE (nums t) x.f x.n), 0)) := hR3
      have hf2 := find25 E2'.out.er (by have := hD.out.v8; omega) cap t
      obtain ⟨F2, hF2⟩ : ∃ F, F = findF t V 0 := ⟨_, rfl⟩
      rw [← hF2, ← hm.out] at hf2
      have hlt := hgl rfl
      go_wp2_with fail
      refine hgg.mono ?_
      rintro e w4 ⟨rfl, e4⟩
      subst e4
      clear hgg hR3 hgl
      go_wp2_with fail
      refine hf2.mono ?_
      rintro e w4 ⟨rfl, e4⟩
      subst e4
      clear hf2
      rcases find_or t V with ⟨h1, h2⟩ | ⟨i2, x2, h1, h2, h3, h4⟩
      · rw [h1] at hF2
        subst hF2
        have hxo := hD.out.ok x (List.mem_of_getElem? hx2.out)
        obtain ⟨c, hc⟩ : ∃ c : Nat, x.i = (c : Int) := ⟨x.i.toNat, by have := hxo.i; omega⟩
        have hRR : RowKit.Hid (R = (wrL l c 1 (bytesE (nums t) x.f x.n), 0)) := by show R = _; rw [hR4.out, h2, hc]; rfl
        obtain ⟨g, eg, gb, gl, fz, z0, z1, z2, z3⟩ := E2'.out.at0 hx2.out
        rw [hc] at z3
        have hput := fun w => put25 (nm := nums t) hD.out.len hD.out.N9.2 (nums_b8 t) (by rw [nums_len]; exact hlt.2) x.f x.n (j := c) (by have := hxo.i; have := hD.out.N9; omega) w
        rw [← hT.out, str_nums] at hput
        obtain ⟨U, hU⟩ : ∃ U, RowKit.Hid (U = strOfNums (wrL l c 1 (bytesE (nums t) x.f x.n))) := ⟨_, rfl⟩
        rw [← hU.out] at hput
        have f0 := fz (i * 4)
        have hld : (Instr.loadAt 91 (.pointer (some ⟨g, i * 4, none⟩))).run Tryz.prog (w4.setCell ⟨g, i * 4, none⟩ (.string t)) = .ok (.agg #[.string t, .int .i64 x.f, .int .i64 x.n, .int .i64 (c : Int)]) (w4.setCell ⟨g, i * 4, none⟩ (.string t)) :=
          load50_at (World.cell?_setCell_same w4 _ _ z0) (by rw [World.cell?_setCell_other (h := fun e => by have := congrArg Addr.off e; simp at this)]; exact z1) (by rw [World.cell?_setCell_other (h := fun e => by have := congrArg Addr.off e; simp at this)]; exact z2) (by rw [World.cell?_setCell_other (h := fun e => by have := congrArg Addr.off e; simp at this)]; exact z3)
        have hK2 : RowKit.Hid (Keep (fun _ => False) w (w4.setCell ⟨g, i * 4, none⟩ (.string t))) := hK.out.setCell (Or.inr gb) _
        have hil : (i : Int) < m := hil'
        clear h1 h2 hR4 hxo hc hD E2' hm hx2 hil' fz gb gl hK
        subst eg
        go_wp2_with (guard_target =~ wpList _ _ _ (Oper.mk _ (Op.load 91 _) _ _ _ _ :: _) _ _; refine wpList_load_run (by rfl) 91 (.tmp 35) (by rfl) (by rfl) hld ?_)
        refine (hput _).mono ?_
        rintro e w5 ⟨rfl, k5⟩
        have hK5 : RowKit.Hid (Keep (fun _ => False) w w5) := hK2.out.trans k5
        clear hput k5 hK2 hld z0 z1 z2 z3 f0
        go_wp2_with fail
        go_ret2
        exact ⟨by rw [hRR.out]; show Ending.returned (.tuple #[.string U, _]) = _; rw [hU.out]; rfl, hK5⟩
      · rw [h1] at hF2
        subst hF2
        have hRR : RowKit.Hid (R = (l, 8)) := by show R = _; rw [hR4.out, h3]; rfl
        clear h1 h2 h3 h4 hR4 hD E2' hm hx2 hil'
        have hge2 : (0 : Int) ≤ (i2 : Int) := by omega
        go_wp2_with fail
        go_ret2
        exact ⟨by rw [hRR.out, hT.out]; rfl, hK⟩
end Tg
end Go.Proofs.YtjgnajopomadpaaGreat
