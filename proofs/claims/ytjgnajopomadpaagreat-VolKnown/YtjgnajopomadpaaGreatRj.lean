/-
  VolApart, given what a store's calls answer.
-/
import Derived.Test.YtjgnajopomadpaaGreatRi
namespace Go.Proofs.YtjgnajopomadpaaGreat
open Go.ChangeShapes Go.WideShapes Go.ChangeAt Go.RowKit
namespace Tg
open Qm Crc
theorem pair_apart {s : Nat → Option En} : ∀ k, (∀ i j e e', i < j → j < k → s i = some e → s j = some e' → apart e e' = true) → ((List.range k).filterMap s).Pairwise (fun a e => apart a e = true)
  | 0, _ => List.Pairwise.nil
  | k + 1, h => by
    rw [List.range_succ, List.filterMap_append, List.pairwise_append]
    refine ⟨pair_apart k (fun i j e e' h1 h2 => h i j e e' h1 (by omega)), by cases hs : s k <;> simp [hs], ?_⟩
    intro a ha e he
    obtain ⟨i, hi, hia⟩ := List.mem_filterMap.1 ha
    obtain ⟨j, hj, hje⟩ := List.mem_filterMap.1 he
    have : j = k := by simpa using hj
    subst this
    exact h i j a e (List.mem_range.1 hi) (by omega) hia hje
theorem Sp.pair {N : Nat} {s : Nat → Option En} (h : Sp N s) {i k : Nat} {a e : En} (hik : k < i) (ha : (lst s)[k]? = some a) (he : (lst s)[i]? = some e) : apart a e = true := by
  have hp := List.pairwise_iff_getElem.1 (pair_apart 8 h.ap)
  obtain ⟨h1, e1⟩ := List.getElem?_eq_some_iff.1 ha
  obtain ⟨h2, e2⟩ := List.getElem?_eq_some_iff.1 he
  have := hp k i h1 h2 hik
  unfold lst at e1 e2
  rw [e1, e2] at this
  exact this
theorem Sp.el {N : Nat} {s : Nat → Option En} (h : Sp N s) {i : Nat} {e : En} (he : (lst s)[i]? = some e) : e.Ok N ∧ goodS (bs (strOfNums e.nm)) = true := by
  obtain ⟨k, hk, hs⟩ := mem_lst.1 (List.mem_of_getElem? he)
  have := h.ok k e hk hs
  exact ⟨this.1, this.2.1⟩
theorem used_next {V : List En} {i : Nat} {e : En} (he : V[i]? = some e) (j : Nat) : usedV (V.take (i + 1)) j = (usedV (V.take i) j || decide (e.f ≤ j ∧ (j : Int) < e.f + e.n)) := by
  unfold usedV
  rw [List.take_add_one, he, List.any_append]
  simp
theorem Sp.free {N : Nat} {s : Nat → Option En} (h : Sp N s) {i : Nat} {e : En} (he : (lst s)[i]? = some e) {j : Nat} (hj : e.f ≤ j ∧ (j : Int) < e.f + e.n) : usedV ((lst s).take i) j = false := by
  cases hu : usedV ((lst s).take i) j with
  | false => rfl
  | true =>
    exfalso
    unfold usedV at hu
    obtain ⟨a, ha, h2⟩ := List.any_eq_true.1 hu
    obtain ⟨k, hk⟩ := List.getElem?_of_mem ha
    rw [List.getElem?_take] at hk
    split at hk
    · next hlt =>
      have hap := h.pair hlt hk he
      have h2 : a.f ≤ j ∧ (j : Int) < a.f + a.n := by simpa using h2
      unfold apart at hap
      rw [Bool.and_eq_true, Bool.or_eq_true] at hap
      rcases hap.2 with h3 | h3
      · have := of_decide_eq_true h3; omega
      · have := of_decide_eq_true h3; omega
    · cases hk
/-- A program's entries that are read, in blocks of their own. -/
def Vr (G : Nat → Prop) (w : World) (a : Option Addr) (V : List En) : Prop := ∀ k e, V[k]? = some e → ∃ g o, a = some ⟨g, o, none⟩ ∧ G g ∧ w.cell? ⟨g, o + k * 3, none⟩ = some (.string (strOfNums e.nm)) ∧ w.cell? ⟨g, o + k * 3 + 1, none⟩ = some (.int .i64 e.f) ∧ w.cell? ⟨g, o + k * 3 + 2, none⟩ = some (.int .i64 e.n)
theorem Vr.keep {G T : Nat → Prop} {w w' : World} {a : Option Addr} {V : List En} (h : Vr G w a V) (k : Keep T w w') (hT : ∀ x, G x → ¬ T x) : Vr G w' a V := fun j e he => by
  obtain ⟨g, o, ea, hg, h0, h1, h2⟩ := h j e he
  have key : ∀ {off v}, w.cell? ⟨g, off, none⟩ = some v → w'.cell? ⟨g, off, none⟩ = some v := fun {off v} hc => by
    rw [← hc]
    exact World.cell?_of_block (w := w) (a := ⟨g, off, none⟩) (k.block g (World.block_lt_of_cell? w _ hc) (hT g hg))
  exact ⟨g, o, ea, hg, key h0, key h1, key h2⟩
theorem Vv.vr {w w' : World} {a : Option Addr} {c : Nat} {V : List En} (h : Vv w w' a c V) : Vr (fun x => w.heap.size ≤ x ∧ x < w'.heap.size) w' a V := fun k e he => by
  have hk := vCs_at he
  rcases h.own.2 with ⟨e', h0⟩ | ⟨g, c', cur, e', hb, hh, -⟩
  · have := (List.getElem?_eq_some_iff.1 he).1; omega
  · rcases Gw.rd h with h0 | ⟨g', o, ea, hc⟩
    · have := hk 0 (by omega)
      rw [h0] at this
      simp at this
    · injection e' with e'
      rw [ea] at e'
      injection e' with e'
      injection e' with e1 e2
      subst e1
      have z0 := hc _ _ (hk 0 (by omega))
      exact ⟨g', o, ea, ⟨hb, World.block_lt_of_cell? w' _ z0⟩, z0, hc _ _ (hk 1 (by omega)), hc _ _ (hk 2 (by omega))⟩
/-- Reading and writing whole volumes. -/
theorem Sp.place {N : Nat} {s : Nat → Option En} (h : Sp N s) {i : Nat} {e : En} (he : (lst s)[i]? = some e) : placeS s (strOfNums e.nm) 0 e.n = (e.f, 0) := by
  obtain ⟨k, hk, hs⟩ := mem_lst.1 (List.mem_of_getElem? he)
  have hv := h.yes.2 ⟨k, hk, hs, rfl⟩
  have hok := (h.ok k e hk hs).1
  unfold placeS
  rw [hv]
  show (if okR e.n 0 e.n then (e.f + 0, (0 : Int)) else (0, 1)) = _
  rw [if_pos (okR_iff.2 ⟨hok.n, by omega, by omega⟩), Int.add_zero]
set_option maxRecDepth 100000 in
theorem gcGood (args : Array Value) (w : World) : (callFunc 15 args).run Tryz.prog w = .ok (.enter 15 args) w := enters Tryz.func15 (by kernel_rfl) (by kernel_rfl) args w
section
variable {SV : (Nat → Prop) → World → Nat → Nat → Nat → List Int → (Nat → Option En) → Prop}
set_option maxRecDepth 100000 in
set_option maxHeartbeats 8000000 in
theorem apart_no (H : StOk SV) {w : World} {a : Option Addr} {len c : Nat} {cp : Int} (first data : ByteArray) (hi : I64 cp) (h : ¬ (9 ≤ cp ∧ cp ≤ 64) ∨ 25 < len) :
    Calls Tryz.prog 6 #[.int .i64 cp, .string first, .slice a len c, .string data] w fun e w' => e = .returned (.bool true) ∧ Keep (fun _ => False) w w' := by
  have hA := awake25 H w
  by_cases hr : 1 ≤ cp ∧ cp ≤ 512
  · obtain ⟨N, rfl⟩ : ∃ n : Nat, cp = n := ⟨cp.toNat, by omega⟩
    have hN := fun w => new_yes w (n := N) (by omega) (by omega)
    by_cases c1 : (N : Int) < 9
    · have d1 : decide ((N : Int) < 9) = true := decide_eq_true c1
      clear h hr hi
      go_enter Tryz.func6, Tryz.ntmps6
      go_wp2_with fail
      refine hA.mono ?_
      rintro e w1 ⟨rfl, k1⟩
      have hN1 := hN w1
      clear hA hN
      go_wp2_with fail
      refine hN1.mono ?_
      rintro e w2 ⟨p, S, rfl, -, -, k2⟩
      have hK : RowKit.Hid (Keep (fun _ => False) w w2) := k1.trans k2
      clear hN1 k1 k2
      go_wp2_with fail
      go_ret
      exact ⟨rfl, hK⟩
    · have d1 : decide ((N : Int) < 9) = false := decide_eq_false c1
      by_cases c2 : (N : Int) > 64
      · have d2 : decide ((N : Int) > 64) = true := decide_eq_true c2
        clear h hr hi
        go_enter Tryz.func6, Tryz.ntmps6
        go_wp2_with fail
        refine hA.mono ?_
        rintro e w1 ⟨rfl, k1⟩
        have hN1 := hN w1
        clear hA hN
        go_wp2_with fail
        refine hN1.mono ?_
        rintro e w2 ⟨p, S, rfl, -, -, k2⟩
        have hK : RowKit.Hid (Keep (fun _ => False) w w2) := k1.trans k2
        clear hN1 k1 k2
        go_wp2_with fail
        go_ret
        exact ⟨rfl, hK⟩
      · have d2 : decide ((N : Int) > 64) = false := decide_eq_false c2
        have c3 : (len : Int) > 25 := by omega
        have d3 : decide ((len : Int) > 25) = true := decide_eq_true c3
        clear h hr hi
        go_enter Tryz.func6, Tryz.ntmps6
        go_wp2_with fail
        refine hA.mono ?_
        rintro e w1 ⟨rfl, k1⟩
        have hN1 := hN w1
        clear hA hN
        go_wp2_with fail
        refine hN1.mono ?_
        rintro e w2 ⟨p, S, rfl, -, -, k2⟩
        have hK : RowKit.Hid (Keep (fun _ => False) w w2) := k1.trans k2
        clear hN1 k1 k2
        go_wp2_with fail
        go_ret
        exact ⟨rfl, hK⟩
  · have hN := fun w => new_no w hr
    clear h hr hi
    go_enter Tryz.func6, Tryz.ntmps6
    go_wp2_with fail
    refine hA.mono ?_
    rintro e w1 ⟨rfl, k1⟩
    have hN1 := hN w1
    clear hA hN
    go_wp2_with fail
    refine hN1.mono ?_
    rintro e w2 ⟨rfl, k2⟩
    have hK : RowKit.Hid (Keep (fun _ => False) w w2) := k1.trans k2
    clear hN1 k1 k2
    go_wp2_with fail
    go_ret
    exact ⟨rfl, hK⟩
end
end Tg
end Go.Proofs.YtjgnajopomadpaaGreat
