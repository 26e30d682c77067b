/-
  The document's own Delete, Place.
-/
import Derived.Test.YtjgnajopomadpaaGreatPk
namespace Go.Proofs.YtjgnajopomadpaaGreat
open Go.ChangeShapes Go.WideShapes Go.ChangeAt Go.RowKit
namespace Tg
open Qm
/-- The volume of a name. -/
def volOf (V : List En) (s : ByteArray) : Option En := V.find? (fun x => decide (strOfNums x.nm = s))
theorem findF_any (s : ByteArray) : ∀ (V : List En) (k : Nat), (findF s V k = -1 ∧ volOf V s = none) ∨ (∃ (i : Nat) (x : En), findF s V k = ((k + i : Nat) : Int) ∧ V[i]? = some x ∧ volOf V s = some x ∧ strOfNums x.nm = s)
  | [], _ => Or.inl ⟨rfl, rfl⟩
  | y :: V, k => by
    unfold findF
    by_cases h : strOfNums y.nm = s
    · rw [if_pos h]
      exact Or.inr ⟨0, y, rfl, rfl, by unfold volOf; rw [List.find?_cons_of_pos (by simpa using h)], h⟩
    · rw [if_neg h]
      have e : volOf (y :: V) s = volOf V s := by unfold volOf; rw [List.find?_cons_of_neg (by simpa using h)]
      rcases findF_any s V (k + 1) with ⟨h1, h2⟩ | ⟨i, x, h1, h2, h3, h4⟩
      · exact Or.inl ⟨h1, by rw [e]; exact h2⟩
      · exact Or.inr ⟨i + 1, x, by rw [h1]; congr 1; omega, by simpa using h2, by rw [e]; exact h3, h4⟩
theorem find_or (s : ByteArray) (V : List En) : (findF s V 0 = -1 ∧ volOf V s = none) ∨ (∃ (i : Nat) (x : En), findF s V 0 = (i : Int) ∧ V[i]? = some x ∧ volOf V s = some x ∧ strOfNums x.nm = s) := by
  rcases findF_any s V 0 with h | ⟨i, x, h1, h2⟩
  · exact Or.inl h
  · exact Or.inr ⟨i, x, by rw [h1, Nat.zero_add], h2⟩
def deleteL (N : Nat) (l : List Int) (s : ByteArray) : List Int × Int := match volOf (volL N l) s with
  | none => (l, 4)
  | some x => (wrL l x.i.toNat 1 [], 0)
def placeL (N : Nat) (l : List Int) (s : ByteArray) (p n : Int) : Int × Int := match volOf (volL N l) s with
  | none => (0, 4)
  | some x => if okR x.n p n then (x.f + p, 0) else (0, 1)
/-- What each of these calls knows of the volumes. -/
structure Dk (l : List Int) (N : Nat) (V : List En) : Prop where
  b8 : B8 l
  len : l.length = N * 32
  N9 : 9 ≤ N ∧ N ≤ 512
  v8 : V.length ≤ 8
  ok : ∀ e ∈ V, e.Ok N
  vol : ∀ wx, Calls Tryz.prog 44 #[.string (strOfNums l)] wx fun e w' => ∃ a cap, e = .returned (.slice a V.length cap) ∧ Ev wx w' a cap V
theorem dk_of {l : List Int} (hl8 : B8 l) {N : Nat} (hl : l.length = N * 32) (hN : 9 ≤ N ∧ N ≤ 512) : Dk l N (volL N l) := by
  obtain ⟨h1, h2⟩ := volK_ok hl8 hl (by omega : 8 ≤ N) 8 (Nat.le_refl _)
  exact ⟨hl8, hl, hN, h1, h2, volumes25 hl8 hl hN⟩
theorem nums_nil : nums ⟨#[]⟩ = [] := rfl
set_option maxRecDepth 100000 in
set_option maxHeartbeats 1000000 in
theorem delete25 {l : List Int} (hl8 : B8 l) {N : Nat} (hl : l.length = N * 32) (hN : 9 ≤ N ∧ N ≤ 512) (s : ByteArray) (w : World) :
    Calls Tryz.prog 49 #[.string (strOfNums l), .string s] w fun e w' => e = .returned (.tuple #[.string (strOfNums (deleteL N l s).1), .int .i64 (deleteL N l s).2]) ∧ Keep (fun _ => False) w w' := by
  have hD : RowKit.Hid (Dk l N (volL N l)) := dk_of hl8 hl hN
  clear hl8 hl hN
  obtain ⟨R, hR⟩ : ∃ R, RowKit.Hid (R = deleteL N l s) := ⟨_, rfl⟩
  have hR2 : RowKit.Hid (R = match volOf (volL N l) s with | none => (l, 4) | some x => (wrL l x.i.toNat 1 [], 0)) := hR
  rw [← hR.out]
  clear hR
  obtain ⟨T, hT⟩ : ∃ T, RowKit.Hid (T = strOfNums l) := ⟨_, rfl⟩
  rw [← hT.out]
  obtain ⟨V, hV⟩ : ∃ V, V = volL N l := ⟨_, rfl⟩
  rw [← hV] at hD hR2
  clear hV
  have hv := hD.out.vol w
  rw [← hT.out] at hv
  go_enter Tryz.func49, Tryz.ntmps49
  go_wp2_with fail
  refine hv.mono ?_
  rintro e w2 ⟨a, cap, rfl, E2⟩
  have E2' : RowKit.Hid (Ev w w2 a cap V) := E2
  have hf := find25 E2.er (by have := hD.out.v8; omega) cap s
  clear hv E2
  obtain ⟨F, hF⟩ : ∃ F, F = findF s V 0 := ⟨_, rfl⟩
  rw [← hF] at hf
  obtain ⟨m, hm⟩ : ∃ m, RowKit.Hid (m = V.length) := ⟨_, rfl⟩
  rw [← hm.out] at hf ⊢
  go_wp2_with fail
  refine hf.mono ?_
  rintro e w3 ⟨rfl, e3⟩
  subst e3
  clear hf
  rcases find_or s V with ⟨h1, h2⟩ | ⟨i, x, h1, h2, h3, h4⟩
  · rw [h1] at hF
    subst hF
    have hRR : RowKit.Hid (R = (l, 4)) := by show R = _; rw [hR2.out, h2]
    have hK : RowKit.Hid (Keep (fun _ => False) w w3) := E2'.out.keep
    clear h1 h2 hR2 hD E2'
    go_wp2_with fail
    go_ret2
    exact ⟨by rw [hRR.out, hT.out]; rfl, hK⟩
  · rw [h1] at hF
    subst hF
    have hxo := hD.out.ok x (List.mem_of_getElem? h2)
    obtain ⟨c, hc⟩ : ∃ c : Nat, x.i = (c : Int) := ⟨x.i.toNat, by have := hxo.i; omega⟩
    have hRR : RowKit.Hid (R = (wrL l c 1 [], 0)) := by show R = _; rw [hR2.out, h3]; show (wrL l x.i.toNat 1 [], (0 : Int)) = _; rw [hc]; rfl
    have hWr := fun w => rwrite17_yes (d := ⟨#[]⟩) hD.out.len hD.out.N9.2 (lba := c) (n := 1) (okR_iff.2 ⟨by omega, by omega, by have := hxo.i; have := hD.out.N9; omega⟩) w
    rw [← hT.out] at hWr
    obtain ⟨U, hU⟩ : ∃ U, RowKit.Hid (U = strOfNums (wrL l c 1 (nums ⟨#[]⟩))) := ⟨_, rfl⟩
    rw [← hU.out] at hWr
    obtain ⟨g, o, eg, -, -, -, z3⟩ := E2'.out.er i x h2
    rw [hc] at z3
    have hge : ¬ (i : Int) < 0 := by omega
    have hil : (i : Int) < m := by have := (List.getElem?_eq_some_iff.1 h2).1; rw [hm.out]; omega
    have hK : RowKit.Hid (Keep (fun _ => False) w w3) := E2'.out.keep
    have hW3 := hWr w3
    clear h1 h2 h3 h4 hR2 hD hxo hc hWr E2' hm
    subst eg
    go_wp2_with fail
    refine hW3.mono ?_
    rintro e w4 ⟨rfl, k4⟩
    have hK4 : RowKit.Hid (Keep (fun _ => False) w w4) := hK.out.trans k4
    clear hW3 k4 hK
    go_wp2_with fail
    go_ret2
    exact ⟨by rw [hRR.out]; show Ending.returned (.tuple #[.string U, _]) = _; rw [hU.out]; rfl, hK4⟩
set_option maxRecDepth 100000 in
set_option maxHeartbeats 1000000 in
theorem place25 {l : List Int} (hl8 : B8 l) {N : Nat} (hl : l.length = N * 32) (hN : 9 ≤ N ∧ N ≤ 512) (s : ByteArray) (p n : Int) (hp : p ≤ 9223372036854775807) (w : World) :
    Calls Tryz.prog 52 #[.string (strOfNums l), .string s, .int .i64 p, .int .i64 n] w fun e w' => e = .returned (.tuple #[.int .i64 (placeL N l s p n).1, .int .i64 (placeL N l s p n).2]) ∧ Keep (fun _ => False) w w' := by
  have hD : RowKit.Hid (Dk l N (volL N l)) := dk_of hl8 hl hN
  clear hl8 hl hN
  obtain ⟨R, hR⟩ : ∃ R, RowKit.Hid (R = placeL N l s p n) := ⟨_, rfl⟩
  have hR2 : RowKit.Hid (R = match volOf (volL N l) s with | none => (0, 4) | some x => if okR x.n p n then (x.f + p, 0) else (0, 1)) := hR
  rw [← hR.out]
  clear hR
  obtain ⟨T, hT⟩ : ∃ T, RowKit.Hid (T = strOfNums l) := ⟨_, rfl⟩
  rw [← hT.out]
  obtain ⟨V, hV⟩ : ∃ V, V = volL N l := ⟨_, rfl⟩
  rw [← hV] at hD hR2
  clear hV
  have hv := hD.out.vol w
  rw [← hT.out] at hv
  go_enter Tryz.func52, Tryz.ntmps52
  go_wp2_with fail
  refine hv.mono ?_
  rintro e w2 ⟨a, cap, rfl, E2⟩
  have E2' : RowKit.Hid (Ev w w2 a cap V) := E2
  have hf := find25 E2.er (by have := hD.out.v8; omega) cap s
  clear hv E2
  obtain ⟨F, hF⟩ : ∃ F, F = findF s V 0 := ⟨_, rfl⟩
  rw [← hF] at hf
  obtain ⟨m, hm⟩ : ∃ m, RowKit.Hid (m = V.length) := ⟨_, rfl⟩
  rw [← hm.out] at hf ⊢
  go_wp2_with fail
  refine hf.mono ?_
  rintro e w3 ⟨rfl, e3⟩
  subst e3
  clear hf
  rcases find_or s V with ⟨h1, h2⟩ | ⟨i, x, h1, h2, h3, h4⟩
  · rw [h1] at hF
    subst hF
    have hRR : RowKit.Hid (R = (0, 4)) := by show R = _; rw [hR2.out, h2]
    have hK : RowKit.Hid (Keep (fun _ => False) w w3) := E2'.out.keep
    clear h1 h2 hR2 hD E2'
    go_wp2_with fail
    go_ret2
    exact ⟨by rw [hRR.out]; rfl, hK⟩
  · rw [h1] at hF
    subst hF
    have hxo := hD.out.ok x (List.mem_of_getElem? h2)
    have hR3 : RowKit.Hid (R = if okR x.n p n then (x.f + p, 0) else (0, 1)) := by show R = _; rw [hR2.out, h3]
    obtain ⟨g, o, eg, -, z1, z2, -⟩ := E2'.out.er i x h2
    have hge : ¬ (i : Int) < 0 := by omega
    have hil : (i : Int) < m := by have := (List.getElem?_eq_some_iff.1 h2).1; rw [hm.out]; omega
    have hK : RowKit.Hid (Keep (fun _ => False) w w3) := E2'.out.keep
    have hxf := hxo.f; have hxn := hxo.n; have hxfn := hxo.fn; have hN5 := hD.out.N9.2
    have hr := right9 w3 x.n p n (by omega)
    have hpos := okR_iff (cap := x.n) (lba := p) (n := n)
    have hpw : RowKit.Hid (okR x.n p n = true → IntKind.i64.wrap (x.f + p) = x.f + p) := fun h => wrapI (by have := hpos.1 h; omega) (by have := hpos.1 h; omega)
    generalize okR x.n p n = B at *
    clear h1 h2 h3 h4 hR2 hD hxo E2' hm hpos hxf hxn hxfn hN5 hp
    subst eg
    cases B with
    | false =>
      have hRR : RowKit.Hid (R = (0, 1)) := hR3
      go_wp2_with fail
      refine hr.mono ?_
      rintro e w4 ⟨rfl, e4⟩
      subst e4
      clear hr hR3
      go_wp2_with fail
      go_ret2
      exact ⟨by rw [hRR.out]; rfl, hK⟩
    | true =>
      have hRR : RowKit.Hid (R = (x.f + p, 0)) := hR3
      have hw := hpw.out rfl
      go_wp2_with fail
      refine hr.mono ?_
      rintro e w4 ⟨rfl, e4⟩
      subst e4
      clear hr hR3
      go_wp2_with fail
      go_ret2
      exact ⟨by rw [hRR.out]; rfl, hK⟩
end Tg
end Go.Proofs.YtjgnajopomadpaaGreat
