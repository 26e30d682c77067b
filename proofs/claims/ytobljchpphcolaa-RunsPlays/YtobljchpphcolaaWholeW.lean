/-
  The statements' own look at a map's tree and arena: whole answers true where the runs are the map's.
-/
import Derived.Test.YtobljchpphcolaaHangsW
namespace Go.Proofs.Ytobljchpphcolaa
open Go.ChangeShapes Go.WideShapes Go.ChangeAt Go.RowKit
namespace Tg

theorem Mt.free {w wr : World} {b p k N : Nat} {l : List Nat} {t : Tr} (h : Mt w wr b p k N l t) :
    Calls Try.prog 43 #[.pointer (some ⟨p, 0, none⟩)] wr fun e w' => ∃ g cap, e = .returned (.slice (some ⟨g, 0, none⟩) l.length cap) ∧ Gw wr w' g cap (ints l) := by
  obtain ⟨s, hT, -⟩ := h.ex
  exact free_any hT.mem hT.ok
theorem Mt.getFree {w wr : World} {b p k N : Nat} {l : List Nat} {t : Tr} (h : Mt w wr b p k N l t) {x : Nat} (hx : x ∈ l) :
    Calls Try.prog 44 #[.pointer (some ⟨p, 0, none⟩), .int .u32 (x : Int)] wr fun e w' => e = .returned (.tuple #[.agg (nodeA (fun _ => 0)), .int .i64 1]) ∧ Keep (fun _ => False) wr w' := by
  obtain ⟨s, hT, -⟩ := h.ex
  have hr := hT.ok.range x hx
  have := hT.ok.small
  exact get_no hT.mem (by omega) hT.ok.small (fun ⟨h1, h2, h3⟩ => ((hT.ok.live x h1 h2).1 h3) hx)
theorem Mt.freeNd {w wr : World} {b p k N : Nat} {l : List Nat} {t : Tr} (h : Mt w wr b p k N l t) : l.Nodup := by
  obtain ⟨s, hT, -⟩ := h.ex
  exact hT.ok.nodup
theorem ints_at {l : List Nat} {i x : Nat} (h : l[i]? = some x) : (ints l).getD i 0 = (x : Int) := by
  simp [ints, h]

set_option maxRecDepth 100000 in
set_option maxHeartbeats 4000000 in
theorem whole_any {w wa : World} {q b p k N cap : Nat} {m : List Rn} (h : Mp w wa q b p k N cap m) {a : Option Addr} {c : Nat} (hr : Rs wa a c m) :
    Calls Try.prog 20 #[.pointer (some ⟨q, 0, none⟩), .slice a m.length c] wa fun e w' => e = .returned (.bool true) ∧ Keep (fun _ => False) wa w' := by
  have htr := tree_any h
  have har := arenaOf_any h
  have hml := h.len
  have hN2 := h.N2
  have hmost := fun (w' : World) (hk : Keep (fun _ => False) wa w') => most_any (h.more hk)
  obtain ⟨l, t, hT, ht⟩ := h.ex
  have hvl : t.views.length = m.length := by rw [Tr.runs_len, ht]
  have hroom := hT.room
  rw [hvl] at hroom
  have hc := hr.1
  go_enter Try.func20, Try.ntmps20
  go_upto_region 3 with (first | (go_at_call 41; refine htr.mono ?_; rintro e w0 ⟨rfl, e0⟩; have e0 := e0.symm; subst e0) | (go_at_call 25; refine har.mono ?_; rintro e w0 ⟨rfl, e0⟩; have e0 := e0.symm; subst e0))
  have hall := hT.all
  rw [hvl, ht] at hall
  clear htr har h
  go_wp2_with fail
  refine hall.mono ?_
  rintro e w1 ⟨rfl, r1, k1⟩
  have s1 := same9 (r1.rs (by omega)) (hr.more k1) (by omega)
  rw [sameL_iff.2 rfl] at s1
  clear hall
  go_wp2_with fail
  refine s1.mono ?_
  rintro e w2 ⟨rfl, k2⟩
  have K2 := k1.trans k2
  have hlv := (hT.more K2).live
  rw [hvl] at hlv
  clear s1 r1 k1 k2
  go_wp2_with fail
  refine hlv.mono ?_
  rintro e w0 ⟨rfl, e0⟩
  have e0 := e0.symm
  subst e0
  have hsz := asize_any (hT.more K2)
  clear hlv
  go_wp2_with fail
  refine hsz.mono ?_
  rintro e w0 ⟨rfl, e0⟩
  have e0 := e0.symm
  subst e0
  have hm2 := hmost _ K2
  clear hsz
  go_wp2_with fail
  refine hm2.mono ?_
  rintro e w0 ⟨rfl, e0⟩
  have e0 := e0.symm
  subst e0
  have hfr := (hT.more K2).free
  clear hm2
  go_wp2_with fail
  refine hfr.mono ?_
  rintro e w3 ⟨g3, c3, rfl, G3⟩
  have K3 := K2.trans G3.keep
  have hm3 := hmost _ K3
  clear hfr G3
  have hroom' : Hid (m.length + l.length = N) := hroom
  have dw := wrapI (x := (N : Int) - m.length) (by omega) (by omega)
  have dne : ((l.length : Int) != (N : Int) - m.length) = false := by simp; omega
  go_wp2_with fail
  refine hm3.mono ?_
  rintro e w0 ⟨rfl, e0⟩
  have e0 := e0.symm
  subst e0
  have hfr := (hT.more K3).free
  clear hm3 hmost
  go_wp2_with (go_at_call 43; refine hfr.mono ?_; rintro e w4 ⟨g4, c4, rfl, G4⟩)
  have K4 := K3.trans G4.keep
  clear hfr dw dne
  have T4 := hT.more K4
  have r4 := hr.more K4
  have row4 := G4.row
  have hc4 := row4.2.1
  have hll : l.length ≤ 512 := by omega
  clear K2 K3 G4 hT hr hroom
  have hvl' : Hid (t.views.length = m.length) := hvl
  clear hvl
  go_loopw [8] (fun v wx => ∃ i : Nat, i ≤ l.length ∧ v = .int .i64 (i : Int) ∧ Keep (fun _ => False) w4 wx) (fun v _ => l.length - (intOf v).toNat)
  case atStart => exact ⟨0, by omega, rfl, Keep.refl _ _⟩
  case round =>
    obtain ⟨i, hi, rfl, k5⟩ := hrel
    have T5 := T4.more k5
    by_cases hlt : i < l.length
    · obtain ⟨x, hx⟩ : ∃ x, l[i]? = some x := ⟨_, List.getElem?_eq_getElem hlt⟩
      have hg := T5.getFree (List.mem_of_getElem? hx)
      have ci := fun (w' : World) (hk : Keep (fun _ => False) w4 w') => (row4.keep hk (fun _ _ _ e => e)).cellAt (i := i) (by simp [ints]; exact hlt)
      rw [ints_at hx] at ci
      have c5 := ci _ k5
      have di : (i : Int) < (l.length : Int) := by omega
      have dw := wrapI (x := (i : Int) + 1) (by omega) (by omega)
      have hlt' : Hid (i < l.length) := hlt
      have hnd := T5.freeNd
      have hnd' : Hid (∀ j y, j < i → l[j]? = some y → y ≠ x) := fun j y hj hy e => by
        subst e
        obtain ⟨b1, h1⟩ := (List.getElem?_eq_some_iff.1 hx)
        obtain ⟨b2, h2⟩ := (List.getElem?_eq_some_iff.1 hy)
        have := List.pairwise_iff_getElem.1 hnd j i b2 b1 hj
        exact this (by rw [h2, h1])
      have hsome : Hid (∀ j, j < i → ∃ y, l[j]? = some y) := fun j hj => ⟨_, List.getElem?_eq_getElem (by omega)⟩
      rw [nodeA_lit] at hg
      clear hnd hx hlt T5
      go_upto_region 12 with (go_at_call 44; refine hg.mono ?_; rintro e w5 ⟨rfl, k6⟩)
      have K6 : Keep (fun _ => False) w4 (w5.alloc (.cells #[.int .u32 0, .int .u32 0, .int .i64 0, .int .i64 0, .int .i64 0, .int .i64 0] 76)) := (k5.trans k6).alloc _
      generalize w5.alloc (.cells #[.int .u32 0, .int .u32 0, .int .i64 0, .int .i64 0, .int .i64 0, .int .i64 0] 76) = w6 at K6 ⊢
      generalize w5.heap.size = g6
      clear hg k6 c5
      go_wp2_with fail
      go_loopw [11] (fun v wx => ∃ j : Nat, j ≤ i ∧ v = .int .i64 (j : Int) ∧ Keep (fun _ => False) w4 wx) (fun v _ => i - (intOf v).toNat)
      case atStart => exact ⟨0, by omega, rfl, K6⟩
      case round =>
        clear K6
        obtain ⟨j, hj, rfl, k7⟩ := hrel
        by_cases hjl : j < i
        · obtain ⟨y, hy⟩ := hsome j hjl
          have hne := hnd' j y hjl hy
          have cj := (row4.keep k7 (fun _ _ _ e => e)).cellAt (i := j) (by simp [ints]; omega)
          rw [ints_at hy] at cj
          have c7 := ci _ k7
          have dj : (j : Int) < (i : Int) := by omega
          have djl : (j : Int) < (l.length : Int) := by omega
          have dwj := wrapI (x := (j : Int) + 1) (by omega) (by omega)
          have hjl' : Hid (j < i) := hjl
          have dy : ((y : Int) == (x : Int)) = false := by rw [beq_eq_false_iff_ne]; omega
          clear hjl hy hne ci
          go_wp2_with fail
          go_quiet (fail)
          go_wp2_with fail
          go_roundw
          case rel => exact ⟨j + 1, hjl', by go_num, k7.drewN _⟩
          case measure => have : j < i := hjl'; simp [intOf]; omega
        · have dj : ¬ (j : Int) < (i : Int) := by omega
          clear hjl ci
          go_wp2_with fail
          go_roundw
          case rel => exact ⟨i + 1, hlt', by go_num, k7⟩
          case measure => have : i < l.length := hlt'; simp [intOf]; omega
    · have di : ¬ (i : Int) < (l.length : Int) := by omega
      have hv := T5.views
      have hroot := fun (w' : World) (hk : Keep (fun _ => False) wr w') => (T5.more hk).root
      rw [(show t.views.length = m.length from hvl')] at hv
      generalize wr.heap.size = GV at hv
      have HK := K4.trans k5
      have hbal : Hid (t.ids.Nodup ∧ t.Bal ∧ (∀ z ∈ t.ids, 1 ≤ z)) := by obtain ⟨s, hT, -⟩ := T5.ex; exact ⟨hT.nd, hT.bal, hT.ids1⟩
      clear hlt T4 T5 r4 row4 hc4
      go_upto_region 18 with (go_at_call 45; refine hv.mono ?_; rintro e w6 ⟨rfl, V6, k6⟩)
      have hrt := hroot _ k6
      by_cases hz : m.length = 0
      · have htn : t = .nil := nil_of (by rw [(show t.views.length = m.length from hvl')]; omega)
        have hl0 : ((t.link : Nat) : Int) = 0 := by rw [htn]; rfl
        rw [hl0] at hrt
        have dz : ((m.length : Nat) : Int) = 0 := by omega
        have HK2 := HK.trans k6
        clear htn hl0 hz hv hroot V6
        go_wp2_with fail
        refine hrt.mono ?_
        rintro e wz ⟨rfl, e0⟩
        have e0 := e0.symm
        subst e0
        go_wp2_with fail
        go_ret
        exact ⟨rfl, HK2⟩
      · have dz : (((m.length : Nat) : Int) == 0) = false := by rw [beq_eq_false_iff_ne]; omega
        have hnn : t ≠ .nil := views_nil.1 (by rw [(show t.views.length = m.length from hvl')]; omega)
        have ch : Calls Try.prog 47 #[.slice (some ⟨GV, 0, none⟩) m.length m.length, .int .i64 0, .int .i64 (m.length : Int), .int .u32 (t.link : Int)] w6 fun e w' => e = .returned (.int .i64 (t.h : Int)) ∧ w' = w6 := by
          have := hangs_any (V := t.views) (by rw [(show t.views.length = m.length from hvl')]; exact V6) (by rw [(show t.views.length = m.length from hvl')]; omega) t hbal.1 hbal.2.1 hbal.2.2 hnn [] [] (by simp)
          simp only [List.length_nil, Nat.zero_add] at this
          rw [(show t.views.length = m.length from hvl')] at this
          exact this
        have hth : Hid (0 < t.h) := h_nil hnn
        have hz' : Hid (¬ m.length = 0) := hz
        have HK2 := HK.trans k6
        clear hz hnn hv hroot V6
        go_wp2_with fail
        refine hrt.mono ?_
        rintro e wz ⟨rfl, e0⟩
        have e0 := e0.symm
        subst e0
        go_wp2_with fail
        refine ch.mono ?_
        rintro e wz ⟨rfl, e0⟩
        have e0 := e0.symm
        subst e0
        go_wp2_with fail
        go_ret
        exact ⟨ret_bool (decide_eq_true hth), HK2⟩
end Tg
end Go.Proofs.Ytobljchpphcolaa
