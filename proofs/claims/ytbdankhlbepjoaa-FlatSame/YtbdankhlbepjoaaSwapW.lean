/-
  What swap leaves: the fresh runs in the place of the old ones.
-/
import Derived.Test.YtbdankhlbepjoaaSwapM
import Derived.Deep.RegionHeld3
namespace Go.Proofs.Ytbdankhlbepjoaa
open Go.ChangeShapes Go.WideShapes Go.ChangeAt Go.RowKit
namespace Tg

theorem Mt.ord {w wr : World} {b p k N : Nat} {l : List Nat} {t : Tr} (h : Mt w wr b p k N l t) : t.Ord := by
  obtain ⟨s, hT, -⟩ := h.ex
  exact hT.ord
/-- A map's tree and struct, in the midst of a change. -/
structure Mid (w w0 wx : World) (q b p k : Nat) (N cap : Nat) (l : List Nat) (t : Tr) : Prop where
  mt : Mt w wx b p k N l t
  top : wx.cell? ⟨q, 2, none⟩ = some (.pointer (some ⟨b, 0, none⟩))
  keep : Keep (Own3 b p k) w0 wx
theorem Mid.more {w w0 wx w' : World} {q b p k N cap : Nat} {l : List Nat} {t : Tr} (h : Mid w w0 wx q b p k N cap l t) (hk : Keep (fun _ => False) wx w') : Mid w w0 w' q b p k N cap l t :=
  ⟨h.mt.more hk, by rw [← h.top]; exact World.cell?_of_block (w := wx) (a := ⟨q, 2, none⟩) (hk.block q (World.block_lt_of_cell? wx _ h.top) (fun e => e)), h.keep.next hk (fun _ _ e => e.elim)⟩
theorem Mid.to {w w0 wx w' : World} {q b p k N cap : Nat} {l l' : List Nat} {t t' : Tr} (h : Mid w w0 wx q b p k N cap l t) (hq : ¬ Own3 b p k q) (hm : Mt w w' b p k N l' t') (hk : Keep (Own3 b p k) wx w') : Mid w w0 w' q b p k N cap l' t' :=
  ⟨hm, by rw [← h.top]; exact World.cell?_of_block (w := wx) (a := ⟨q, 2, none⟩) (hk.block q (World.block_lt_of_cell? wx _ h.top) hq), h.keep.trans hk⟩

set_option maxRecDepth 100000 in
set_option maxHeartbeats 4000000 in
theorem swap_any {w wa : World} {q b p k N cap : Nat} {l0 : List Nat} {t0 : Tr} (h : Mid w wa wa q b p k N cap l0 t0) (hq : ¬ Own3 b p k q) {A o f B : List Rn} (hm : t0.runs = A ++ o ++ B) (hu : Tr.Up (A ++ f ++ B)) (hN : (A ++ f ++ B).length ≤ N) (hN2 : N ≤ 512)
    {a1 a2 : Option Addr} {c1 c2 : Nat} (r1 : Rs wa a1 c1 o) (r2 : Rs wa a2 c2 f) (s1 : ∀ g, a1 = some ⟨g, 0, none⟩ → ¬ Own3 b p k g) (s2 : ∀ g, a2 = some ⟨g, 0, none⟩ → ¬ Own3 b p k g) :
    Calls Try.prog 52 #[.pointer (some ⟨q, 0, none⟩), .slice a1 o.length c1, .slice a2 f.length c2] wa fun e w' => e = .returned (.tuple #[]) ∧ ∃ l t, Mid w wa w' q b p k N cap l t ∧ t.runs = A ++ f ++ B := by
  have hum : Tr.Up (A ++ o ++ B) := by rw [← hm]; exact Tr.ord_up.1 h.mt.ord
  have huo : Tr.Up o := (List.pairwise_append.1 (List.pairwise_append.1 hum).1).2.1
  have huf : Tr.Up f := (List.pairwise_append.1 (List.pairwise_append.1 hu).1).2.1
  have hol : o.length ≤ 512 := by
    have := h.mt.room
    rw [Tr.runs_len, hm] at this
    simp at this
    omega
  have hfl : f.length ≤ 512 := by simp at hN; omega
  have hc1 := r1.1
  have hc2 := r2.1
  have hs := h.keep.size
  have D0 : DelI (A ++ o ++ B) o f 0 t0 := DelI.start hm
  have HU : Hid (Tr.Up (A ++ f ++ B) ∧ Tr.Up (A ++ o ++ B) ∧ Tr.Up o ∧ Tr.Up f ∧ (A ++ f ++ B).length ≤ N) := ⟨hu, hum, huo, huf, hN⟩
  clear hu hum huo huf hN hm
  go_enter Try.func52, Try.ntmps52
  go_wp2_with fail
  go_loopw [12] (fun v wx => ∃ (i : Nat) (l : List Nat) (t : Tr), i ≤ o.length ∧ v = .int .i64 (i : Int) ∧ Hid (DelI (A ++ o ++ B) o f i t) ∧ Mid w wa wx q b p k N cap l t) (fun v _ => o.length - (intOf v).toNat)
  case atStart => exact ⟨0, l0, t0, by omega, rfl, D0, h⟩
  case round =>
    obtain ⟨i, l, t, hi, rfl, hD, M1⟩ := hrel
    clear D0
    by_cases hlt : i < o.length
    · obtain ⟨x, hx⟩ := get_rn hlt
      have hxm : x ∈ A ++ o ++ B := by have := List.mem_of_getElem? hx; simp [this]
      have di : (i : Int) < (o.length : Int) := by omega
      have dw := wrapI (x := (i : Int) + 1) (by omega) (by omega)
      have r1' := r1.keep M1.keep s1
      have r2' := r2.keep M1.keep s2
      obtain ⟨g, rfl, e0, e1, e2⟩ := r1'.at hx
      have K2 : Keep (fun _ => False) wr (wr.alloc (.cells (rnA x) 55)) := (Keep.refl _ _).alloc _
      have L2 := Lrn.new wr x
      have hcon := cont_any (r2'.more K2) (by omega) L2
      have M2 := M1.more K2
      have hg2 : wr.heap.size < (wr.alloc (.cells (rnA x) 55)).heap.size := by simp
      have hlt' : Hid (i < o.length) := hlt
      cases hf : hasL x.lba f with
      | true =>
        have hD2 : Hid (DelI (A ++ o ++ B) o f (i + 1) t) := DelI.keep hD hx hf
        rw [hf] at hcon
        generalize hW : wr.alloc (.cells (rnA x) 55) = w2 at K2 L2 hcon M2 hg2
        rw [rnA_lit] at hW
        clear hf hx hD hlt r1' r2' r1 r2 h M1
        go_wp2_with (go_at_call 58; refine hcon.mono ?_; rintro e w3 ⟨rfl, k3⟩)
        go_roundw
        case rel => exact ⟨i + 1, l, t, hlt', by go_num, hD2, M2.more k3⟩
        case measure => have : i < o.length := hlt'; simp [intOf]; omega
      | false =>
        have hh := DelI.has hD M1.mt.ord HU.2.2.1 hx hxm
        have hD2 : Hid (DelI (A ++ o ++ B) o f (i + 1) (t.del x.lba)) := DelI.del hD M1.mt.ord HU.2.1 hx hxm hf
        rw [hf] at hcon
        generalize hW : wr.alloc (.cells (rnA x) 55) = w2 at K2 L2 hcon M2 hg2
        rw [rnA_lit] at hW
        have hgO : ¬ Own3 b p k wr.heap.size := M1.mt.out (Nat.le_refl _)
        have hid := M1.mt.has.1 hh
        clear hf hx hD hlt r1' r2' h M1
        go_upto_region 4 with (go_at_call 58; refine hcon.mono ?_; rintro e w3 ⟨rfl, k3⟩)
        have L3 : Lrn w3.drew wr.heap.size x := L2.more (k3.drew)
        have M3 : Mid w wa w3.drew q b p k N cap l t := (M2.more k3).more ((Keep.refl _ _).drew)
        have hdel := M3.mt.delete x.lba hid
        have hS : ∀ w', Keep (Own3 b p k) w3.drew w' → w'.cell? ⟨q, 2, none⟩ = some (.pointer (some ⟨b, 0, none⟩)) ∧ w'.cell? ⟨wr.heap.size, 0, none⟩ = some (.int .i64 x.lba) := fun w' hk => ⟨by rw [← M3.top]; exact World.cell?_of_block (w := w3.drew) (a := ⟨q, 2, none⟩) (hk.block q (World.block_lt_of_cell? w3.drew _ M3.top) hq), (Blk.keep L3 hk hgO 0 (by omega)).1⟩
        clear hcon hW L2
        go_region_held3 (fun w' => w'.cell? ⟨q, 2, none⟩ = some (.pointer (some ⟨b, 0, none⟩)) ∧ w'.cell? ⟨wr.heap.size, 0, none⟩ = some (.int .i64 x.lba)) (first | exact hS _ (Keep.refl _ _) | exact hS _ k4) ((go_at_call 60; refine hdel.mono ?_; rintro e w4 ⟨rfl, M4, k4⟩))
        have M5 := M3.to hq M4 k4
        clear hS hdel L3 M3
        go_wp2_with fail
        go_roundw
        case rel => exact ⟨i + 1, _, _, hlt', by go_num, hD2, M5⟩
        case measure => have : i < o.length := hlt'; simp [intOf]; omega
    · have di : ¬ (i : Int) < (o.length : Int) := by omega
      have ei : i = o.length := by omega
      subst ei
      have P0 : Hid (PutI (A ++ o ++ B) o f 0 t) := DelI.end hD
      clear hD hi hlt r1 s1 h
      go_wp2_with fail
      go_loopw [30] (fun v wx => ∃ (j : Nat) (l : List Nat) (t : Tr), j ≤ f.length ∧ v = .int .i64 (j : Int) ∧ Hid (PutI (A ++ o ++ B) o f j t) ∧ Mid w wa wx q b p k N cap l t) (fun v _ => f.length - (intOf v).toNat)
      case atStart => exact ⟨0, l, t, by omega, rfl, P0, M1⟩
      case round =>
        clear P0 M1
        obtain ⟨j, l, t, hj, rfl, hP, M1⟩ := hrel
        by_cases hlt : j < f.length
        · obtain ⟨x, hx⟩ := get_rn hlt
          have di2 : (j : Int) < (f.length : Int) := by omega
          have dw := wrapI (x := (j : Int) + 1) (by omega) (by omega)
          have r2' := r2.keep M1.keep s2
          obtain ⟨g, rfl, e0, e1, e2⟩ := r2'.at hx
          have K2 : Keep (fun _ => False) wr (wr.alloc (.cells (rnA x) 55)) := (Keep.refl _ _).alloc _
          have L2 := Lrn.new wr x
          have M2 := M1.more K2
          have hlt' : Hid (j < f.length) := hlt
          have hgO : ¬ Own3 b p k wr.heap.size := M1.mt.out (Nat.le_refl _)
          generalize hW : wr.alloc (.cells (rnA x) 55) = w2 at K2 L2 M2
          rw [rnA_lit] at hW
          have M3 : Mid w wa w2.drew q b p k N cap l t := M2.more ((Keep.refl _ _).drew)
          have L3 : Lrn w2.drew wr.heap.size x := L2
          have hS : ∀ w', Keep (Own3 b p k) w2.drew w' → w'.cell? ⟨q, 2, none⟩ = some (.pointer (some ⟨b, 0, none⟩)) ∧ w'.cell? ⟨wr.heap.size, 0, none⟩ = some (.int .i64 x.lba) ∧ w'.cell? ⟨wr.heap.size, 1, none⟩ = some (.int .i64 x.len) ∧ w'.cell? ⟨wr.heap.size, 2, none⟩ = some (.int .i64 x.phys) := fun w' hk => ⟨by rw [← M3.top]; exact World.cell?_of_block (w := w2.drew) (a := ⟨q, 2, none⟩) (hk.block q (World.block_lt_of_cell? w2.drew _ M3.top) hq), (Blk.keep L3 hk hgO 0 (by omega)).1, (Blk.keep L3 hk hgO 1 (by omega)).1, (Blk.keep L3 hk hgO 2 (by omega)).1⟩
          by_cases hh : t.Has x.lba
          · have hP2 : Hid (PutI (A ++ o ++ B) o f (j + 1) (t.chg x)) := PutI.chg hP M1.mt.ord HU.2.2.2.1 hx hh
            have hch := M3.mt.change x (M1.mt.has.1 hh)
            rw [rnA_lit] at hch
            clear hx hP hlt r2' M1 hh
            go_upto_region 9 with fail
            go_region_held3 (fun w' => w'.cell? ⟨q, 2, none⟩ = some (.pointer (some ⟨b, 0, none⟩)) ∧ w'.cell? ⟨wr.heap.size, 0, none⟩ = some (.int .i64 x.lba) ∧ w'.cell? ⟨wr.heap.size, 1, none⟩ = some (.int .i64 x.len) ∧ w'.cell? ⟨wr.heap.size, 2, none⟩ = some (.int .i64 x.phys)) (first | exact hS _ (Keep.refl _ _) | exact hS _ k4) ((go_at_call 61; refine hch.mono ?_; rintro e w4 ⟨rfl, M4, k4⟩))
            have M5 := M3.to hq M4 k4
            clear hS hch L3 M3 hW L2
            go_wp2_with fail
            go_roundw
            case rel => exact ⟨j + 1, _, _, hlt', by go_num, hP2, M5⟩
            case measure => have : j < f.length := hlt'; simp [intOf]; omega
          · have hid : t.idOf x.lba = 0 := by
              by_cases c : t.idOf x.lba = 0
              · exact c
              · exact absurd (M1.mt.has.2 c) hh
            have hroom : ∃ n l', l = n :: l' := by
              have h1 := M1.mt.room
              have hP3 := PutI.ins hP M1.mt.ord hx hh 0
              have h2 := PutI.len hP3 (Tr.ins_ord M1.mt.ord hh) HU.1
              have h3 : (t.ins 0 x).runs.length = t.runs.length + 1 := by unfold Tr.runs; have := Tr.ins_len (n := 0) (v := x) (t := t); unfold Tr.ids at this; simpa using this
              have h4 := HU.2.2.2.2
              rw [Tr.runs_len] at h1
              rcases l with _ | ⟨n, l'⟩
              · simp at h1; omega
              · exact ⟨n, l', rfl⟩
            obtain ⟨n, l', rfl⟩ := hroom
            have hP2 : Hid (PutI (A ++ o ++ B) o f (j + 1) (t.ins n x)) := PutI.ins hP M1.mt.ord hx hh n
            have hch := M3.mt.changeNo x hid
            rw [rnA_lit] at hch
            clear hx hP hlt r2' M1 hh
            go_upto_region 9 with fail
            go_region_held3 (fun w' => w'.cell? ⟨q, 2, none⟩ = some (.pointer (some ⟨b, 0, none⟩)) ∧ w'.cell? ⟨wr.heap.size, 0, none⟩ = some (.int .i64 x.lba) ∧ w'.cell? ⟨wr.heap.size, 1, none⟩ = some (.int .i64 x.len) ∧ w'.cell? ⟨wr.heap.size, 2, none⟩ = some (.int .i64 x.phys)) (first | exact hS _ (Keep.refl _ _) | exact hS _ (k4.mono (fun _ _ e => e.elim))) ((go_at_call 61; refine hch.mono ?_; rintro e w4 ⟨rfl, k4⟩))
            have M5 : Mid w wa w4.drew q b p k N cap (n :: l') t := (M3.more k4).more ((Keep.refl _ _).drew)
            have L5 : Lrn w4.drew wr.heap.size x := L3.more (k4.drew)
            have hin := M5.mt.insert x hid
            rw [rnA_lit] at hin
            have hS5 : ∀ w', Keep (Own3 b p k) w4.drew w' → w'.cell? ⟨q, 2, none⟩ = some (.pointer (some ⟨b, 0, none⟩)) ∧ w'.cell? ⟨wr.heap.size, 0, none⟩ = some (.int .i64 x.lba) ∧ w'.cell? ⟨wr.heap.size, 1, none⟩ = some (.int .i64 x.len) ∧ w'.cell? ⟨wr.heap.size, 2, none⟩ = some (.int .i64 x.phys) := fun w' hk => ⟨by rw [← M5.top]; exact World.cell?_of_block (w := w4.drew) (a := ⟨q, 2, none⟩) (hk.block q (World.block_lt_of_cell? w4.drew _ M5.top) hq), (Blk.keep L5 hk hgO 0 (by omega)).1, (Blk.keep L5 hk hgO 1 (by omega)).1, (Blk.keep L5 hk hgO 2 (by omega)).1⟩
            clear hS hch L3 M3 hW L2
            go_upto_region 10 with fail
            go_region_held3 (fun w' => w'.cell? ⟨q, 2, none⟩ = some (.pointer (some ⟨b, 0, none⟩)) ∧ w'.cell? ⟨wr.heap.size, 0, none⟩ = some (.int .i64 x.lba) ∧ w'.cell? ⟨wr.heap.size, 1, none⟩ = some (.int .i64 x.len) ∧ w'.cell? ⟨wr.heap.size, 2, none⟩ = some (.int .i64 x.phys)) (first | exact hS5 _ (Keep.refl _ _) | exact hS5 _ k6) ((go_at_call 62; refine hin.mono ?_; rintro e w6 ⟨rfl, M6, k6⟩))
            have M7 := M5.to hq M6 k6
            clear hS5 hin L5 M5
            go_wp2_with fail
            go_roundw
            case rel => exact ⟨j + 1, _, _, hlt', by go_num, hP2, M7⟩
            case measure => have : j < f.length := hlt'; simp [intOf]; omega
        · have dj : ¬ (j : Int) < (f.length : Int) := by omega
          have ej : j = f.length := by omega
          subst ej
          have hE : Hid (t.runs = A ++ f ++ B) := PutI.end hP M1.mt.ord HU.2.1 HU.1
          clear hP hj hlt r2 s2
          go_wp2_with fail
          exact bodyPost_end (v := .tuple #[]) (results_none rfl _ _ _) rfl ⟨rfl, l, t, M1, by rw [← List.append_assoc]; exact hE⟩
end Tg
end Go.Proofs.Ytbdankhlbepjoaa
