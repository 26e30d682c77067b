/-
  tellRune and Quote over any memory.
-/
import Derived.Test.YtgilagmgepogbaaDoorTell
namespace Go.Proofs.YtgilagmgepogbaaDoor
open Go.ChangeShapes Go.WideShapes Go.ChangeAt Go.RowKit
namespace Tg
open Qm

set_option maxRecDepth 100000 in
theorem tell_rune_34 {w : World} {g cap : Nat} {l : List Nat} (h : Ow w g cap l) (hl : l.length ≤ 140737488355300) :
    Calls Tryd.prog 58 #[.slice (some ⟨g, 0, none⟩) l.length cap, .int .i32 34] w fun e w' => ∃ g' cap', e = .returned (.slice (some ⟨g', 0, none⟩) (l.length + 2) cap') ∧ Up w w' g g' cap' (l ++ [92, 34]) := by
  obtain ⟨g', cap', w2, hrun, hU⟩ := h.put2 (x := 92) (y := 34) (X := 92) (Y := 34) (by omega) (by omega) rfl rfl (by omega)
  go_enter Tryd.func58, Tryd.ntmps58
  go_wp2_with (at_builtin; refine wpList_append_run rfl (.tmp 12) (.tmp 15) 67 rfl (by rfl) (by rfl) hrun ?_)
  go_ret
  exact ⟨_, _, rfl, hU⟩
set_option maxRecDepth 100000 in
theorem tell_rune_92 {w : World} {g cap : Nat} {l : List Nat} (h : Ow w g cap l) (hl : l.length ≤ 140737488355300) :
    Calls Tryd.prog 58 #[.slice (some ⟨g, 0, none⟩) l.length cap, .int .i32 92] w fun e w' => ∃ g' cap', e = .returned (.slice (some ⟨g', 0, none⟩) (l.length + 2) cap') ∧ Up w w' g g' cap' (l ++ [92, 92]) := by
  obtain ⟨g', cap', w2, hrun, hU⟩ := h.put2 (x := 92) (y := 92) (X := 92) (Y := 92) (by omega) (by omega) rfl rfl (by omega)
  go_enter Tryd.func58, Tryd.ntmps58
  go_wp2_with (at_builtin; refine wpList_append_run rfl (.tmp 12) (.tmp 15) 67 rfl (by rfl) (by rfl) hrun ?_)
  go_ret
  exact ⟨_, _, rfl, hU⟩
set_option maxRecDepth 100000 in
theorem tell_rune_10 {w : World} {g cap : Nat} {l : List Nat} (h : Ow w g cap l) (hl : l.length ≤ 140737488355300) :
    Calls Tryd.prog 58 #[.slice (some ⟨g, 0, none⟩) l.length cap, .int .i32 10] w fun e w' => ∃ g' cap', e = .returned (.slice (some ⟨g', 0, none⟩) (l.length + 2) cap') ∧ Up w w' g g' cap' (l ++ [92, 110]) := by
  obtain ⟨g', cap', w2, hrun, hU⟩ := h.put2 (x := 92) (y := 110) (X := 92) (Y := 110) (by omega) (by omega) rfl rfl (by omega)
  go_enter Tryd.func58, Tryd.ntmps58
  go_wp2_with (at_builtin; refine wpList_append_run rfl (.tmp 20) (.tmp 21) 67 rfl (by rfl) (by rfl) hrun ?_)
  go_ret
  exact ⟨_, _, rfl, hU⟩
set_option maxRecDepth 100000 in
theorem tell_rune_9 {w : World} {g cap : Nat} {l : List Nat} (h : Ow w g cap l) (hl : l.length ≤ 140737488355300) :
    Calls Tryd.prog 58 #[.slice (some ⟨g, 0, none⟩) l.length cap, .int .i32 9] w fun e w' => ∃ g' cap', e = .returned (.slice (some ⟨g', 0, none⟩) (l.length + 2) cap') ∧ Up w w' g g' cap' (l ++ [92, 116]) := by
  obtain ⟨g', cap', w2, hrun, hU⟩ := h.put2 (x := 92) (y := 116) (X := 92) (Y := 116) (by omega) (by omega) rfl rfl (by omega)
  go_enter Tryd.func58, Tryd.ntmps58
  go_wp2_with (at_builtin; refine wpList_append_run rfl (.tmp 26) (.tmp 27) 67 rfl (by rfl) (by rfl) hrun ?_)
  go_ret
  exact ⟨_, _, rfl, hU⟩
set_option maxRecDepth 100000 in
theorem tell_rune_0 {w : World} {g cap : Nat} {l : List Nat} (h : Ow w g cap l) (hl : l.length ≤ 140737488355300) :
    Calls Tryd.prog 58 #[.slice (some ⟨g, 0, none⟩) l.length cap, .int .i32 0] w fun e w' => ∃ g' cap', e = .returned (.slice (some ⟨g', 0, none⟩) (l.length + 2) cap') ∧ Up w w' g g' cap' (l ++ [92, 48]) := by
  obtain ⟨g', cap', w2, hrun, hU⟩ := h.put2 (x := 92) (y := 48) (X := 92) (Y := 48) (by omega) (by omega) rfl rfl (by omega)
  go_enter Tryd.func58, Tryd.ntmps58
  go_wp2_with (at_builtin; refine wpList_append_run rfl (.tmp 32) (.tmp 33) 67 rfl (by rfl) (by rfl) hrun ?_)
  go_ret
  exact ⟨_, _, rfl, hU⟩

set_option maxRecDepth 100000 in
theorem tell_rune {w : World} {g cap : Nat} {l : List Nat} (h : Ow w g cap l) {v : Nat} (hv : valid v) (hl : l.length ≤ 140737488355300) :
    Calls Tryd.prog 58 #[.slice (some ⟨g, 0, none⟩) l.length cap, .int .i32 (v : Int)] w fun e w' => ∃ g' cap', e = .returned (.slice (some ⟨g', 0, none⟩) (l.length + (tell v).length) cap') ∧ Up w w' g g' cap' (l ++ tell v) := by
  unfold tell
  by_cases h1 : v = 34
  · rw [if_pos h1]; subst h1; exact tell_rune_34 h hl
  rw [if_neg h1]
  by_cases h2 : v = 92
  · rw [if_pos h2]; subst h2; exact tell_rune_92 h hl
  rw [if_neg h2]
  by_cases h3 : v = 10
  · rw [if_pos h3]; subst h3; exact tell_rune_10 h hl
  rw [if_neg h3]
  by_cases h4 : v = 9
  · rw [if_pos h4]; subst h4; exact tell_rune_9 h hl
  rw [if_neg h4]
  by_cases h5 : v = 0
  · rw [if_pos h5]; subst h5; exact tell_rune_0 h hl
  rw [if_neg h5]
  have i1 : ((v : Int) == 34) = false := by rw [beq_eq_false_iff_ne]; omega
  have i2 : ((v : Int) == 92) = false := by rw [beq_eq_false_iff_ne]; omega
  have i3 : ((v : Int) == 10) = false := by rw [beq_eq_false_iff_ne]; omega
  have i4 : ((v : Int) == 9) = false := by rw [beq_eq_false_iff_ne]; omega
  have i5 : ((v : Int) == 0) = false := by rw [beq_eq_false_iff_ne]; omega
  have j1 : ¬ (v : Int) = 34 := by omega
  have j2 : ¬ (v : Int) = 92 := by omega
  have j3 : ¬ (v : Int) = 10 := by omega
  have j4 : ¬ (v : Int) = 9 := by omega
  have j5 : ¬ (v : Int) = 0 := by omega
  have hvb : v < 1114112 := by unfold valid at hv; omega
  by_cases h6 : v < 32 ∨ v = 127
  · rw [if_pos h6, ← hexs2]
    have hlen : ([92, 120] ++ hexs v 2).length = 2 + 2 := by rw [List.length_append, hexs_len]; rfl
    rw [hlen]
    have hc := tell_number h (c := 120) (n := 2) (v := v) (by omega) (by omega) hvb hl
    clear hlen
    by_cases h7 : v < 32
    · have k1 : (v : Int) < 32 := by omega
      clear h1 h2 h3 h4 h5 h6
      go_enter Tryd.func58, Tryd.ntmps58
      go_wp2_with fail
      refine hc.mono ?_
      rintro e w' ⟨g', cap', rfl, hU⟩
      go_wp2_with fail
      go_ret
      exact ⟨_, _, rfl, hU⟩
    · obtain rfl : v = 127 := by omega
      clear h1 h2 h3 h4 h5 h6
      go_enter Tryd.func58, Tryd.ntmps58
      go_wp2_with fail
      refine hc.mono ?_
      rintro e w' ⟨g', cap', rfl, hU⟩
      go_wp2_with fail
      go_ret
      exact ⟨_, _, rfl, hU⟩
  rw [if_neg h6]
  have k1 : ¬ (v : Int) < 32 := by omega
  have k2 : ((v : Int) == 127) = false := by rw [beq_eq_false_iff_ne]; omega
  have k3 : ¬ (v : Int) = 127 := by omega
  by_cases h7 : isU v
  · rw [if_pos h7, ← hexs4]
    have hlen : ([92, 117] ++ hexs v 4).length = 2 + 4 := by rw [List.length_append, hexs_len]; rfl
    rw [hlen]
    have hc := tell_number h (c := 117) (n := 4) (v := v) (by omega) (by omega) hvb hl
    clear hlen
    unfold isU at h7
    by_cases h8 : v < 160
    · have m1 : (128 : Int) ≤ v := by omega
      have m2 : (v : Int) ≤ 159 := by omega
      clear h1 h2 h3 h4 h5 h6 h7 h8
      go_enter Tryd.func58, Tryd.ntmps58
      go_wp2_with fail
      refine hc.mono ?_
      rintro e w' ⟨g', cap', rfl, hU⟩
      go_wp2_with fail
      go_ret
      exact ⟨_, _, rfl, hU⟩
    · have h9 : v = 8232 ∨ v = 8233 ∨ v = 65279 := by omega
      rcases h9 with rfl | rfl | rfl
      all_goals
        clear h1 h2 h3 h4 h5 h6 h7 h8
        go_enter Tryd.func58, Tryd.ntmps58
        go_wp2_with fail
        refine hc.mono ?_
        rintro e w' ⟨g', cap', rfl, hU⟩
        go_wp2_with fail
        go_ret
        exact ⟨_, _, rfl, hU⟩
  rw [if_neg h7]
  unfold isU at h7
  have hc := append_rune h hv hl
  have l1 : ((v : Int) == 8232) = false := by rw [beq_eq_false_iff_ne]; omega
  have l2 : ((v : Int) == 8233) = false := by rw [beq_eq_false_iff_ne]; omega
  have l3 : ((v : Int) == 65279) = false := by rw [beq_eq_false_iff_ne]; omega
  have l4 : ¬ (v : Int) = 8232 := by omega
  have l5 : ¬ (v : Int) = 8233 := by omega
  have l6 : ¬ (v : Int) = 65279 := by omega
  by_cases h8 : v < 128
  · have m1 : ¬ (128 : Int) ≤ v := by omega
    clear h1 h2 h3 h4 h5 h6 h7 h8
    go_enter Tryd.func58, Tryd.ntmps58
    go_wp2_with fail
    refine hc.mono ?_
    rintro e w' ⟨g', cap', rfl, hU⟩
    go_wp2_with fail
    go_ret
    exact ⟨_, _, rfl, hU⟩
  · have m1 : (128 : Int) ≤ v := by omega
    have m2 : ¬ (v : Int) ≤ 159 := by omega
    clear h1 h2 h3 h4 h5 h6 h7 h8
    go_enter Tryd.func58, Tryd.ntmps58
    go_wp2_with fail
    refine hc.mono ?_
    rintro e w' ⟨g', cap', rfl, hU⟩
    go_wp2_with fail
    go_ret
    exact ⟨_, _, rfl, hU⟩

theorem tell_len {v : Nat} : (tell v).length ≤ 4 * (enc v).length := by
  have hh : (hex2 v).length = 2 ∧ (hex4 v).length = 4 := ⟨rfl, rfl⟩
  have he := (enc_len v).1
  have h2 : 128 ≤ v → 2 ≤ (enc v).length := fun h => by
    unfold enc
    rw [if_neg (by omega)]
    split
    · simp
    · split <;> simp
  unfold tell
  repeat' split
  all_goals try (simp; omega)
  rename_i hu
  unfold isU at hu
  have := h2 (by omega)
  rw [List.length_append, hh.2]; simp; omega
theorem piece_len {l : List Nat} : (piece l).1.length ≤ 4 * (piece l).2 := by
  unfold piece
  split
  · simp [tellB, hex2]
  · rename_i h0
    obtain ⟨_, r, _, hr⟩ := enc_rune h0
    rw [hr]
    exact tell_len

theorem itpos {w : World} {k : Nat} {s : ByteArray} {p : Nat} (h : w.heap[k]? = some (.stringIter s p)) : w.iterPos k = p := by simp [World.iterPos, h]

set_option maxRecDepth 100000 in
set_option maxHeartbeats 2000000 in
/-- Quote. -/
theorem quote_any (s : ByteArray) (hs : s.size ≤ 35184372088000) (w : World) : Calls Tryd.prog 53 #[.string s] w fun e w' => e = .returned (.string (str (told (bs s)))) ∧ Keep (fun _ => False) w w' := by
  obtain ⟨w1, hmk, hO, hK⟩ := make_room (s.size + 2) (by omega) w
  obtain ⟨g2, cap2, w2, hrun, hU⟩ := hO.put1 (x := 34) (X := 34) (by omega) rfl (by simp)
  simp only [List.length_nil, Nat.zero_add, List.nil_append] at hrun hU
  have hk0 : w.heap.size ≤ w1.heap.size := hK.size
  have hk1 : w1.heap.size ≤ w2.heap.size := hU.keep.size
  have hg2 : g2 < w2.heap.size := by
    have := World.block_lt_of_cell? w2 _ (hU.own.row.cellAt (i := 0) (by simp))
    exact this
  have hQ : Qi w (w2.iter s 0) w2.heap.size s 0 g2 cap2 [34] := by
    have hn := hU.new
    refine ⟨World.iter_heap _ _ _, hU.own.keep ((Keep.refl (fun _ => False) w2).alloc _) (fun e => e), ?_, by omega, by omega, by omega⟩
    refine Keep.alloc ?_ _
    exact ⟨hU.keep.os.trans hK.os, hU.keep.tape.trans hK.tape, hU.keep.output.trans hK.output, by omega, fun i hi _ => by
      rw [hU.keep.block i (by omega) (by omega)]; exact hK.block i hi (fun e => e)⟩
  have hsz : (s.size : Int) ≤ 35184372088000 := by omega
  rw [show ((s.size + 2 : Nat) : Int) = (s.size : Int) + 2 by omega] at hmk
  have HT : Hid (told (bs s) = [34] ++ body ((bs s).drop 0) ++ [34]) := by
    rw [List.drop_zero]; rfl
  clear hO hK hU hg2
  go_enter Tryd.func53, Tryd.ntmps53
  go_wp2_with (at_builtin; refine wpList_append_run rfl (.tmp 10) (.tmp 11) 67 rfl (by rfl) (by rfl) hrun ?_)
  clear hrun hmk
  generalize hkk : w2.heap.size = k at *
  go_loopw [3] (fun b wr => ∃ (pos g' cap' : Nat) (m : List Nat), b = .slice (some ⟨g', 0, none⟩) m.length cap' ∧ Qi w wr k s pos g' cap' m ∧ told (bs s) = m ++ body ((bs s).drop pos) ++ [34] ∧ m.length ≤ 4 * pos + 1 ∧ pos ≤ s.size) (fun _ wr => s.size - wr.iterPos k)
  case atStart => exact ⟨0, g2, cap2, [34], rfl, hQ, HT.out, by simp, by omega⟩
  case round =>
    clear hQ HT
    obtain ⟨pos, g', cap', m, rfl, hQ, hm, hml, hps⟩ := hrel
    by_cases hp : pos < s.size
    · obtain ⟨wn, hnx, hQn⟩ := hQ.next hp
      have hip : wr.iterPos k = pos := itpos hQ.it
      have hne : (bs s).drop pos ≠ [] := fun e => by
        have h1 := congrArg List.length e
        rw [List.length_drop, bs_len, List.length_nil] at h1
        omega
      have hpp := piece_pos hne
      rw [List.length_drop, bs_len] at hpp
      have hpl := piece_len (l := (bs s).drop pos)
      rw [body_cons hne, List.drop_drop, ← List.append_assoc] at hm
      have hir := isrune_any s pos wn (by omega) hp
      have HM : Hid (told (bs s) = m ++ (piece ((bs s).drop pos)).1 ++ body ((bs s).drop (pos + (piece ((bs s).drop pos)).2)) ++ [34]) := hm
      have HP : Hid (1 ≤ (piece ((bs s).drop pos)).2 ∧ (piece ((bs s).drop pos)).2 ≤ s.size - pos ∧ (piece ((bs s).drop pos)).1.length ≤ 4 * (piece ((bs s).drop pos)).2) := ⟨hpp.1, hpp.2, hpl⟩
      have HI : Hid (wr.iterPos k = pos) := hip
      clear hm hip hpp hpl
      by_cases hz : (rune ((bs s).drop pos)).2 = 0
      · rw [decide_eq_false (by simpa using hz)] at hir
        have hpc : (piece ((bs s).drop pos)).1 = [92, 120] ++ hexs ((s[pos]'hp).toNat) 2 := by
          unfold piece
          rw [if_pos hz, bs_at hp]
          show tellB _ = _
          unfold tellB
          rw [hexs2]
          congr 2
          have : ((bs s).drop pos).headD 0 = ((bs s).drop pos).getD 0 0 := by cases (bs s).drop pos <;> rfl
          rw [this, drop_getD]
          rfl
        have hbt : (s[pos]'hp).toNat < 256 := by rw [bs_at hp]; exact bs_lt s pos
        have hc := tell_number hQn.own (c := 120) (n := 2) (v := (s[pos]'hp).toNat) (by omega) (by omega) (by omega) (by omega)
        have HC : Hid ((piece ((bs s).drop pos)).1 = [92, 120] ++ hexs ((s[pos]'hp).toNat) 2) := hpc
        have hwr : wrap64 ((s[pos]'hp).toNat : Int) = ((s[pos]'hp).toNat : Int) := by unfold wrap64; omega
        clear hpc hz hne hbt
        generalize (fixed (rune ((bs s).drop pos))).1 = v at *
        go_wp2_with fail
        refine hir.mono ?_
        rintro e w' ⟨rfl, rfl⟩
        go_wp2_with fail
        refine hc.mono ?_
        rintro e w4 ⟨g3, cap3, rfl, hU3⟩
        go_wp2_with fail
        have hQ4 := hQn.up hU3
        rw [← HC.out] at hQ4
        have hl2 : m.length + (2 + 2) = (m ++ (piece ((bs s).drop pos)).1).length := by rw [List.length_append, HC.out, List.length_append, hexs_len]; rfl
        refine ⟨⟨_, g3, cap3, _, by rw [← hl2], hQ4, HM.out, ?_, ?_⟩, ?_⟩
        · have := HP.out; rw [List.length_append]; omega
        · have := HP.out; omega
        · have := HP.out; rw [HI.out, itpos hQ4.it]; omega
      · rw [decide_eq_true hz] at hir
        have hf : (fixed (rune ((bs s).drop pos))).1 = (rune ((bs s).drop pos)).1 := by unfold fixed; rw [if_neg hz]
        have hpc : (piece ((bs s).drop pos)).1 = tell (rune ((bs s).drop pos)).1 := by unfold piece; rw [if_neg hz]
        rw [hf] at hir hnx
        have hc := tell_rune hQn.own (v := (rune ((bs s).drop pos)).1) (enc_rune hz).1 (by omega)
        have HC : Hid ((piece ((bs s).drop pos)).1 = tell (rune ((bs s).drop pos)).1) := hpc
        clear hpc hz hne hf
        generalize (rune ((bs s).drop pos)).1 = v at *
        go_wp2_with fail
        refine hir.mono ?_
        rintro e w' ⟨rfl, rfl⟩
        go_wp2_with fail
        refine hc.mono ?_
        rintro e w4 ⟨g3, cap3, rfl, hU3⟩
        go_wp2_with fail
        have hQ4 := hQn.up hU3
        rw [← HC.out] at hQ4
        have hl2 : m.length + (tell v).length = (m ++ (piece ((bs s).drop pos)).1).length := by rw [List.length_append, HC.out]
        refine ⟨⟨_, g3, cap3, _, by rw [← hl2], hQ4, HM.out, ?_, ?_⟩, ?_⟩
        · have := HP.out; rw [List.length_append]; omega
        · have := HP.out; omega
        · have := HP.out; rw [HI.out, itpos hQ4.it]; omega
    · have hnx : ∀ ty, (Instr.next (.pointer (some ⟨k, 0, none⟩)) true ty).run Tryd.prog wr = _ := fun ty => run_next_none hQ.it hp ty
      have hb : (bs s).drop pos = [] := by rw [List.drop_eq_nil_iff, bs_len]; omega
      rw [hb, body_nil, List.append_nil] at hm
      obtain ⟨g3, cap3, w3, hrun3, hU3⟩ := hQ.own.put1 (x := 34) (X := 34) (by omega) rfl (by omega)
      rw [← hm] at hU3
      have hQ3 := hQ.up hU3
      have ht := hQ3.own.text
      rw [hm, List.length_append, List.length_singleton] at ht
      have HM : Hid (told (bs s) = m ++ [34]) := hm
      clear hm hb
      go_wp2_with (at_builtin; refine wpList_append_run rfl (.tmp 32) (.tmp 33) 67 rfl (by rfl) (by rfl) hrun3 ?_)
      go_ret
      exact ⟨by rw [HM.out]; rfl, hQ3.keep⟩
end Tg
end Go.Proofs.YtgilagmgepogbaaDoor
