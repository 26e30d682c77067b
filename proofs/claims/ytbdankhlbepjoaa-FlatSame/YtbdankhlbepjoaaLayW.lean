/-
  What lay leaves: the runs near a range joined anew, or EFULL and nothing changed.
-/
import Derived.Test.YtbdankhlbepjoaaSwapW
namespace Go.Proofs.Ytbdankhlbepjoaa
open Go.ChangeShapes Go.WideShapes Go.ChangeAt Go.RowKit
namespace Tg

/-- Bounds of a run. -/
def Bd (x : Rn) : Prop := 0 ≤ x.lba ∧ 0 ≤ x.phys ∧ 0 ≤ x.len ∧ x.lba + x.len ≤ 512 ∧ x.phys + x.len ≤ 1049088
theorem joinL_bd {l : List Rn} {r : Rn} (h : ∀ x ∈ l, Bd x) (hr : r.len < 1 ∨ Bd r) : ∀ x ∈ joinL l r, Bd x := by
  by_cases c : r.len < 1
  · rw [joinL_empty c]; exact h
  · have hr := hr.resolve_left c
    rcases snoc_cases l with rfl | ⟨a, y, rfl⟩
    · rw [joinL_nil (by omega)]
      intro x hx; simp at hx; subst hx; exact hr
    · by_cases g : y.fin = r.lba ∧ y.phys + y.len = r.phys
      · rw [joinL_glue (by omega) g]
        intro x hx
        rcases List.mem_append.1 hx with hx | hx
        · exact h x (by simp [hx])
        · simp at hx
          subst hx
          have hy := h y (by simp)
          unfold Bd Rn.fin at *
          simp only
          omega
      · rw [joinL_new (by omega) g]
        intro x hx
        rcases List.mem_append.1 hx with hx | hx
        · exact h x hx
        · simp at hx; subst hx; exact hr
theorem joins_bd : ∀ {c l : List Rn}, (∀ x ∈ l, Bd x) → (∀ x ∈ c, x.len < 1 ∨ Bd x) → ∀ x ∈ joins l c, Bd x
  | [], _, h, _ => h
  | r :: c, l, h, hc => by
    rw [joins_cons]
    exact joins_bd (joinL_bd h (hc r (by simp))) (fun x hx => hc x (by simp [hx]))
theorem joinL_len (l : List Rn) (r : Rn) : (joinL l r).length ≤ l.length + 1 := by
  by_cases c : r.len < 1
  · rw [joinL_empty c]; omega
  · rcases snoc_cases l with rfl | ⟨a, y, rfl⟩
    · rw [joinL_nil (by omega)]; simp
    · by_cases g : y.fin = r.lba ∧ y.phys + y.len = r.phys
      · rw [joinL_glue (by omega) g]; simp
      · rw [joinL_new (by omega) g]; simp
theorem joins_len : ∀ (c l : List Rn), (joins l c).length ≤ l.length + c.length
  | [], _ => by rw [joins_nil]; simp
  | r :: c, l => by
    rw [joins_cons]
    have := joins_len c (joinL l r)
    have := joinL_len l r
    simp; omega
theorem joins_next {l o : List Rn} {f : Rn → Rn} {i : Nat} {x : Rn} (hx : o[i]? = some x) : joins l ((o.take (i + 1)).map f) = joinL (joins l ((o.take i).map f)) (f x) := by
  rw [take_next hx, List.map_append, joins_app]; rfl
theorem part_bd {x : Rn} (hx : Bd x) {a c : Int} (ha : 0 ≤ a) (hc : c ≤ 512) : (partR x a c).len < 1 ∨ Bd (partR x a c) := by
  unfold Bd partR at *
  simp only
  omega
theorem wide {m : List Rn} (h : ∀ x ∈ m, Bd x) : ∀ x ∈ m, 0 ≤ x.lba ∧ x.lba ≤ 100000000 ∧ 0 ≤ x.phys ∧ x.phys ≤ 100000000 ∧ 0 ≤ x.len ∧ x.len ≤ 100000000 := fun x hx => by
  have := h x hx; unfold Bd at this; omega
theorem load_run49 {w : World} {g : Nat} {x : Rn} (h : Lrn w g x) : (Instr.loadAt 55 (.pointer (some ⟨g, 0, none⟩))).run Try.prog w = .ok (.agg #[.int .i64 x.lba, .int .i64 x.len, .int .i64 x.phys]) w := by
  have := loadAt_rn h (o := 0) (by omega) (fun i _ => by rw [Nat.zero_add])
  rwa [rnA_lit] at this
set_option maxRecDepth 100000 in
theorem call50 (args : Array Value) (w : World) : (callFunc 49 args).run Try.prog w = .ok (.enter 49 args) w := enters Try.func49 (by kernel_rfl) (by kernel_rfl) args w
set_option maxRecDepth 100000 in
theorem call51 (args : Array Value) (w : World) : (callFunc 50 args).run Try.prog w = .ok (.enter 50 args) w := enters Try.func50 (by kernel_rfl) (by kernel_rfl) args w

set_option maxRecDepth 100000 in
set_option maxHeartbeats 1000000 in
theorem lay_any {w wa : World} {q b p k N cap : Nat} {m : List Rn} (h : Mp w wa q b p k N cap m) {lo hi : Int} (h0 : 0 ≤ lo) (h1 : lo < hi) (h2 : hi ≤ (cap : Int)) {ins A F B : List Rn} (hL : Laid lo hi (cap : Int) ins m A F B) (hb : ∀ x ∈ ins, Bd x) (hil : ins.length ≤ 1) (hlim : Lim (cap : Int) 1049088 (A ++ F ++ B))
    {aI : Option Addr} {cI : Nat} (rI : Rs wa aI cI ins) :
    Calls Try.prog 41 #[.pointer (some ⟨q, 0, none⟩), .int .i64 lo, .int .i64 hi, .slice aI ins.length cI] wa fun e w' => ((A ++ F ++ B).length ≤ N ∧ e = .returned (.int .i64 0) ∧ Mp w w' q b p k N cap (A ++ F ++ B) ∧ Keep (Own3 b p k) wa w') ∨ (N < (A ++ F ++ B).length ∧ e = .returned (.int .i64 5) ∧ Keep (fun _ => False) wa w') := by
  have hcap := h.cap2
  have hnear := near_any h h0 h1 (by omega)
  have hF := hL.fresh
  unfold freshL at hF
  have hspl := hL.split
  have hol : (nearL lo hi m).length ≤ m.length := List.length_filter_le _ _
  have hbo : ∀ x ∈ nearL lo hi m, Bd x := fun x hx => by
    have := h.run (List.mem_filter.1 hx).1
    unfold Bd; omega
  have hml := h.len
  have hN2 := h.N2
  generalize nearL lo hi m = o at hnear hF hspl hol hbo
  have hcI := rI.1
  have hHide : Hid (Laid lo hi (cap : Int) ins m A F B ∧ F = joins (joins (joins [] (o.map (fun x => partR x 0 lo))) ins) (o.map (fun x => partR x hi cap)) ∧ m = A ++ o ++ B) := ⟨hL, hF, hspl⟩
  have hbo' : Hid (∀ x ∈ o, Bd x) := hbo
  have hbI' : Hid (∀ x ∈ ins, Bd x) := hb
  have hol' : o.length ≤ 512 := by omega
  clear hL hF hspl hbo hb hol
  go_enter Try.func41, Try.ntmps41
  go_wp2_with (go_at_call 48; refine hnear.mono ?_; rintro e w1 ⟨ao, co, rfl, Ro⟩)
  clear hnear
  have M1 := h.more Ro.keep
  have rI1 := rI.more Ro.keep
  have rO1 := Ro.rs
  have hco := rO1.1
  have R0 : Rr w1 w1 none 0 (joins [] ((o.take 0).map (fun x => partR x 0 lo))) := Rr.nil w1
  go_loopw [10, 23] (fun lv iv wx => ∃ (i : Nat) (fa : Option Addr) (fc : Nat), i ≤ o.length ∧ lv = .slice fa (joins [] ((o.take i).map (fun x => partR x 0 lo))).length fc ∧ iv = .int .i64 (i : Int) ∧ Rr w1 wx fa fc (joins [] ((o.take i).map (fun x => partR x 0 lo)))) (fun _ iv _ => o.length - (intOf iv).toNat)
  case atStart => exact ⟨0, none, 0, by omega, rfl, rfl, R0⟩
  case round =>
    clear R0
    obtain ⟨i, fa, fc, hi1, rfl, rfl, R2⟩ := hrel
    by_cases hlt : i < o.length
    · obtain ⟨x, hx⟩ := get_rn hlt
      have hxb : Bd x := hbo' x (List.mem_of_getElem? hx)
      have di : (i : Int) < (o.length : Int) := by omega
      have dw := wrapI (x := (i : Int) + 1) (by omega) (by omega)
      obtain ⟨g, rfl, e0, e1, e2⟩ := (rO1.more R2.keep).at hx
      have K3 : Keep (fun _ => False) wr (wr.alloc (.cells (rnA x) 55)) := (Keep.refl _ _).alloc _
      have L3 := Lrn.new wr x
      have hbd := wide (joins_bd (l := []) (c := (o.take i).map (fun x => partR x 0 lo)) (by simp) (fun y hy => by obtain ⟨z, hz, rfl⟩ := List.mem_map.1 hy; exact part_bd (hbo' z (List.mem_of_mem_take hz)) (by omega) (by omega)))
      have hlen : (joins [] ((o.take i).map (fun x => partR x 0 lo))).length ≤ 100000 := by have := joins_len ((o.take i).map (fun x => partR x 0 lo)) []; rw [List.length_map, List.length_take, List.length_nil] at this; omega
      have hpart := fun w3 => part_any w3 x 0 lo (by unfold Bd at hxb; omega) (by omega) (by omega)
      have hzl : (partR x 0 lo).len ≤ 100000000 := by have := part_bd hxb (a := 0) (c := lo) (by omega) (by omega); unfold Bd at this; omega
      have hnx : Hid (joins [] ((o.take (i + 1)).map (fun x => partR x 0 lo)) = joinL (joins [] ((o.take i).map (fun x => partR x 0 lo))) (partR x 0 lo)) := joins_next hx
      have hlt' : Hid (i < o.length) := hlt
      generalize joins [] ((o.take i).map (fun x => partR x 0 lo)) = J at R2 hbd hlen hnx ⊢
      have R3 := R2.more K3
      generalize hW : wr.alloc (.cells (rnA x) 55) = w3 at K3 L3 R3
      rw [rnA_lit] at hW
      generalize partR x 0 lo = z at hpart hzl hnx
      have hp3 := hpart w3
      rw [rnA_lit, rnA_lit] at hp3
      obtain ⟨p0, p1, p2⟩ := L3.c
      have hj := fun (w4 : World) (k4 : Keep (fun _ => False) w3 w4) => rjoin_any (R3.more k4) z hlen hbd hzl
      simp only [rnA_lit] at hj
      clear hx hlt hxb h hpart hbd hlen hzl
      go_wp2_with (first | (go_at_call 50; refine hp3.mono ?_; rintro e w4 ⟨rfl, k4⟩) | (go_at_call 49; refine (hj _ k4).mono ?_; rintro e w5 ⟨fa', fc', rfl, R5⟩))
      rw [← (show joins [] ((o.take (i + 1)).map (fun x => partR x 0 lo)) = _ from hnx)] at R5 ⊢
      go_roundw
      case rel => exact ⟨i + 1, fa', fc', hlt', rfl, by go_num, R5⟩
      case measure => have : i < o.length := hlt'; simp [intOf]; omega
    · have di : ¬ (i : Int) < (o.length : Int) := by omega
      have ei : i = o.length := by omega
      subst ei
      rw [List.take_length] at R2 ⊢
      have hb1 : Hid (∀ x ∈ joins [] (o.map (fun x => partR x 0 lo)), Bd x) := joins_bd (l := []) (by simp) (fun y hy => by obtain ⟨z, hz, rfl⟩ := List.mem_map.1 hy; exact part_bd (hbo' z hz) (by omega) (by omega))
      have hl1 : (joins [] (o.map (fun x => partR x 0 lo))).length ≤ 512 := by have := joins_len (o.map (fun x => partR x 0 lo)) []; simp at this; omega
      generalize hF1 : joins [] (o.map (fun x => partR x 0 lo)) = F1 at R2 hb1 hl1 ⊢
      clear hi1 hlt
      go_wp2_with fail
      have R0 : Rr w1 wr fa fc (joins F1 (ins.take 0)) := R2
      clear R2
      go_loopw [10, 35] (fun lv iv wx => ∃ (i : Nat) (fa : Option Addr) (fc : Nat), i ≤ ins.length ∧ lv = .slice fa (joins F1 (ins.take i)).length fc ∧ iv = .int .i64 (i : Int) ∧ Rr w1 wx fa fc (joins F1 (ins.take i))) (fun _ iv _ => ins.length - (intOf iv).toNat)
      case atStart => exact ⟨0, fa, fc, by omega, rfl, rfl, R0⟩
      case round =>
        clear R0
        obtain ⟨i, fa, fc, hi1, rfl, rfl, R2⟩ := hrel
        by_cases hlt : i < ins.length
        · obtain ⟨x, hx⟩ := get_rn hlt
          have hxb : Bd x := hbI' x (List.mem_of_getElem? hx)
          have di2 : (i : Int) < (ins.length : Int) := by omega
          have dw := wrapI (x := (i : Int) + 1) (by omega) (by omega)
          obtain ⟨g, rfl, e0, e1, e2⟩ := (rI1.more R2.keep).at hx
          have K3 : Keep (fun _ => False) wr (wr.alloc (.cells (rnA x) 55)) := (Keep.refl _ _).alloc _
          have L3 := Lrn.new wr x
          have hbd := wide (joins_bd (l := F1) (c := ins.take i) hb1 (fun y hy => Or.inr (hbI' y (List.mem_of_mem_take hy))))
          have hlen : (joins F1 (ins.take i)).length ≤ 100000 := by have := joins_len (ins.take i) F1; rw [List.length_take] at this; omega
          have hzl : x.len ≤ 100000000 := by unfold Bd at hxb; omega
          have hnx : Hid (joins F1 (ins.take (i + 1)) = joinL (joins F1 (ins.take i)) x) := by show joins F1 (ins.take (i + 1)) = _; rw [take_next hx, joins_app]; rfl
          have hlt' : Hid (i < ins.length) := hlt
          generalize joins F1 (ins.take i) = J at R2 hbd hlen hnx ⊢
          have R3 := R2.more K3
          generalize hW : wr.alloc (.cells (rnA x) 55) = w3 at K3 L3 R3
          rw [rnA_lit] at hW
          obtain ⟨p0, p1, p2⟩ := L3.c
          have hj := rjoin_any R3 x hlen hbd hzl
          simp only [rnA_lit] at hj
          clear hx hlt hxb h hbd hlen hzl
          go_wp2_with (go_at_call 49; refine hj.mono ?_; rintro e w5 ⟨fa', fc', rfl, R5⟩)
          rw [← (show joins F1 (ins.take (i + 1)) = _ from hnx)] at R5 ⊢
          go_roundw
          case rel => exact ⟨i + 1, fa', fc', hlt', rfl, by go_num, R5⟩
          case measure => have : i < ins.length := hlt'; simp [intOf]; omega
        · have di2 : ¬ (i : Int) < (ins.length : Int) := by omega
          have ei : i = ins.length := by omega
          subst ei
          rw [List.take_length] at R2 ⊢
          have hb2 : Hid (∀ x ∈ joins F1 ins, Bd x) := joins_bd hb1 (fun y hy => Or.inr (hbI' y hy))
          have hl2 : (joins F1 ins).length ≤ 513 := by have := joins_len ins F1; omega
          generalize hF2 : joins F1 ins = F2 at R2 hb2 hl2 ⊢
          clear hi1 hlt
          go_wp2_with fail
          have R0 : Rr w1 wr fa fc (joins F2 ((o.take 0).map (fun x => partR x hi cap))) := R2
          clear R2
          go_loopw [10, 45] (fun lv iv wx => ∃ (i : Nat) (fa : Option Addr) (fc : Nat), i ≤ o.length ∧ lv = .slice fa (joins F2 ((o.take i).map (fun x => partR x hi cap))).length fc ∧ iv = .int .i64 (i : Int) ∧ Rr w1 wx fa fc (joins F2 ((o.take i).map (fun x => partR x hi cap)))) (fun _ iv _ => o.length - (intOf iv).toNat)
          case atStart => exact ⟨0, fa, fc, by omega, rfl, rfl, R0⟩
          case round =>
            clear R0
            obtain ⟨i, fa, fc, hi1, rfl, rfl, R2⟩ := hrel
            by_cases hlt : i < o.length
            · obtain ⟨x, hx⟩ := get_rn hlt
              have hxb : Bd x := hbo' x (List.mem_of_getElem? hx)
              have di3 : (i : Int) < (o.length : Int) := by omega
              have dw := wrapI (x := (i : Int) + 1) (by omega) (by omega)
              obtain ⟨g, rfl, e0, e1, e2⟩ := (rO1.more R2.keep).at hx
              have K3 : Keep (fun _ => False) wr (wr.alloc (.cells (rnA x) 55)) := (Keep.refl _ _).alloc _
              have L3 := Lrn.new wr x
              have hbd := wide (joins_bd (l := F2) (c := (o.take i).map (fun x => partR x hi cap)) hb2 (fun y hy => by obtain ⟨z, hz, rfl⟩ := List.mem_map.1 hy; exact part_bd (hbo' z (List.mem_of_mem_take hz)) (by omega) (by omega)))
              have hlen : (joins F2 ((o.take i).map (fun x => partR x hi cap))).length ≤ 100000 := by have := joins_len ((o.take i).map (fun x => partR x hi cap)) F2; rw [List.length_map, List.length_take] at this; omega
              have hpart := fun w3 => part_any w3 x hi cap (by unfold Bd at hxb; omega) (by omega) (by omega)
              have hzl : (partR x hi cap).len ≤ 100000000 := by have := part_bd hxb (a := hi) (c := cap) (by omega) (by omega); unfold Bd at this; omega
              have hnx : Hid (joins F2 ((o.take (i + 1)).map (fun x => partR x hi cap)) = joinL (joins F2 ((o.take i).map (fun x => partR x hi cap))) (partR x hi cap)) := joins_next hx
              have hlt' : Hid (i < o.length) := hlt
              generalize joins F2 ((o.take i).map (fun x => partR x hi cap)) = J at R2 hbd hlen hnx ⊢
              have R3 := R2.more K3
              generalize hW : wr.alloc (.cells (rnA x) 55) = w3 at K3 L3 R3
              rw [rnA_lit] at hW
              generalize partR x hi cap = z at hpart hzl hnx
              have hp3 := hpart w3.drew
              rw [rnA_lit, rnA_lit] at hp3
              have hj := fun (w4 : World) (k4 : Keep (fun _ => False) w3.drew w4) => rjoin_any ((R3.more ((Keep.refl _ _).drew)).more k4) z hlen hbd hzl
              simp only [rnA_lit] at hj
              have M3 := M1.more R3.keep
              have c3 : w3.drew.cell? ⟨q, 0, none⟩ = some (.int .i64 (cap : Int)) := M3.tops.1
              have L3d : Lrn w3.drew wr.heap.size x := L3
              clear hx hlt hxb h hpart hbd hlen hzl
              go_upto_region 16 with fail
              refine wp_region_noPanic ?_
              refine wp_region_held_drew (S := fun wz => wz.cell? ⟨q, 0, none⟩ = some (.int .i64 (cap : Int))) (by kernel_rfl) (c3) (fun hH0 => ?_)
              refine' wpAnyH_take (i := 0) (oi := { dst := some 49, op := Op.move (Operand.tmp 10), type := 49, pos := "runs.go:128", after := #[], guard := none }) (v := _) rfl (by kernel_rfl) (by kernel_rfl) (by kernel_rfl) (fun _ _ _ h => h) (Or.inl ⟨by rfl, ?hy0⟩) hH0 ?r0
              case hy0 => (intro w' hSw; clear hSw; go_simp; try with_reducible rfl)
              simp only [Act.put, List.setIfInBounds_toArray, List.set_cons_zero, List.set_cons_succ]
              refine' wpAnyH_take (i := 2) (oi := { dst := some 51, op := Op.move (Operand.tmp 2), type := 3, pos := "runs.go:128", after := #[], guard := none }) (v := _) rfl (by kernel_rfl) (by kernel_rfl) (by kernel_rfl) (fun _ _ _ h => h) (Or.inl ⟨by rfl, ?hy2⟩) hH0 ?r2
              case hy2 => (intro w' hSw; clear hSw; go_simp; try with_reducible rfl)
              simp only [Act.put, List.setIfInBounds_toArray, List.set_cons_zero, List.set_cons_succ]
              refine' wpAnyH_take (i := 3) (oi := { dst := some 52, op := Op.move (Operand.tmp 0), type := 39, pos := "runs.go:128", after := #[], guard := none }) (v := _) rfl (by kernel_rfl) (by kernel_rfl) (by kernel_rfl) (fun _ _ _ h => h) (Or.inl ⟨by rfl, ?hy3⟩) hH0 ?r3
              case hy3 => (intro w' hSw; clear hSw; go_simp; try with_reducible rfl)
              simp only [Act.put, List.setIfInBounds_toArray, List.set_cons_zero, List.set_cons_succ]
              refine' wpAnyH_take (i := 4) (oi := { dst := some 53, op := Op.nilCheck (Operand.tmp 52), type := 0, pos := "runs.go:128", after := #[{ on := 3, ground := Ground.data }], guard := none }) (v := _) rfl (by kernel_rfl) (by kernel_rfl) (by kernel_rfl) (fun _ _ _ h => h) (Or.inl ⟨by rfl, ?hy4⟩) hH0 ?r4
              case hy4 => (intro w' hSw; clear hSw; go_simp; try with_reducible rfl)
              simp only [Act.put, List.setIfInBounds_toArray, List.set_cons_zero, List.set_cons_succ]
              refine' wpAnyH_take (i := 5) (oi := { dst := some 54, op := Op.fieldAddr 71 (Operand.tmp 53) 0, type := 0, pos := "runs.go:128", after := #[{ on := 4, ground := Ground.data }], guard := none }) (v := _) rfl (by kernel_rfl) (by kernel_rfl) (by kernel_rfl) (fun _ _ _ h => h) (Or.inl ⟨by rfl, ?hy5⟩) hH0 ?r5
              case hy5 => (intro w' hSw; clear hSw; go_simp; try with_reducible rfl)
              simp only [Act.put, List.setIfInBounds_toArray, List.set_cons_zero, List.set_cons_succ]
              refine' wpAnyH_take (i := 6) (oi := { dst := some 55, op := Op.load 3 (Operand.tmp 54), type := 3, pos := "runs.go:128", after := #[{ on := 5, ground := Ground.data }], guard := none }) (v := _) rfl (by kernel_rfl) (by kernel_rfl) (by kernel_rfl) (fun _ _ _ h => h) (Or.inl ⟨by rfl, ?hy6⟩) hH0 ?r6
              case hy6 => (intro w' hSw; go_simp; try with_reducible rfl)
              simp only [Act.put, List.setIfInBounds_toArray, List.set_cons_zero, List.set_cons_succ]
              refine wpAnyH_ready (rs := [1]) (by kernel_rfl) (by simp) ?_
              refine AllReadyH.cons (o := { dst := some 50, op := Op.load 55 (Operand.tmp 16), type := 55, pos := "runs.go:128", after := #[], guard := none }) rfl (fun K hK => ?_) AllReadyH.nil
              refine step_load_run (by rfl) 55 (.tmp 16) rfl (by rfl) (load_run49 L3d) ?_
              refine hK.out _ _ (c3) (fun hH1 => ?_)
              clear hK K hH0
              simp only [Act.put, List.setIfInBounds_toArray, List.set_cons_zero, List.set_cons_succ]
              refine wpAnyH_ready (rs := [7]) (by kernel_rfl) (by simp) ?_
              refine AllReadyH.cons (o := { dst := some 56, op := Op.call { callee := Callee.value (Operand.func 50), args := #[Operand.tmp 50, Operand.tmp 51, Operand.tmp 55], argTypes := #[55, 3, 3] }, type := 55, pos := "runs.go:128", after := #[{ on := 1, ground := Ground.data }, { on := 2, ground := Ground.data }, { on := 6, ground := Ground.data }], guard := none }) rfl (fun K hK => ?_) AllReadyH.nil
              refine step_call_want (vs := #[.agg #[.int .i64 x.lba, .int .i64 x.len, .int .i64 x.phys], .int .i64 hi, .int .i64 (cap : Int)]) (R := fun u wz => u = .agg #[.int .i64 z.lba, .int .i64 z.len, .int .i64 z.phys] ∧ Keep (fun _ => False) w3.drew wz) (by rfl) 50 #[Operand.tmp 50, Operand.tmp 51, Operand.tmp 55] #[55, 3, 3] rfl (by simp [Act.eval]) call51 (post_of hp3) ?_
              rintro _ w4 ⟨rfl, k4⟩
              refine hK.out _ _ ((M3.more (((Keep.refl (fun _ => False) w3).drew).trans k4)).tops.1) (fun hH2 => ?_)
              clear hK K hH1
              simp only [Act.put, List.setIfInBounds_toArray, List.set_cons_zero, List.set_cons_succ]
              refine wpAnyH_ready (rs := [8]) (by kernel_rfl) (by simp) ?_
              refine AllReadyH.cons (o := { dst := some 57, op := Op.call { callee := Callee.value (Operand.func 49), args := #[Operand.tmp 49, Operand.tmp 56], argTypes := #[49, 55] }, type := 49, pos := "runs.go:128", after := #[{ on := 0, ground := Ground.data }, { on := 7, ground := Ground.data }, { on := 7, ground := Ground.chain }], guard := none }) rfl (fun K hK => ?_) AllReadyH.nil
              refine step_call_want (vs := #[.slice fa J.length fc, .agg #[.int .i64 z.lba, .int .i64 z.len, .int .i64 z.phys]]) (R := fun u wz => ∃ a' c', u = .slice a' (joinL J z).length c' ∧ Rr w1 wz a' c' (joinL J z)) (by rfl) 49 #[Operand.tmp 49, Operand.tmp 56] #[49, 55] rfl (by simp [Act.eval]) call50 ((hj _ k4).mono (by rintro e wz ⟨a', c', rfl, hR⟩; exact ⟨_, rfl, a', c', rfl, hR⟩)) ?_
              rintro _ w5 ⟨fa', fc', rfl, R5⟩
              refine hK.out _ _ ((M1.more R5.keep).tops.1) (fun hH3 => ?_)
              clear hK K hH2
              simp only [Act.put, List.setIfInBounds_toArray, List.set_cons_zero, List.set_cons_succ]
              refine' wpAnyH_take (i := 9) (oi := { dst := some 10, op := Op.assign (Operand.tmp 57), type := 49, pos := "runs.go:128", after := #[{ on := 8, ground := Ground.data }, { on := 8, ground := Ground.chain }, { on := 0, ground := Ground.phase }, { on := 1, ground := Ground.phase }, { on := 2, ground := Ground.phase }, { on := 3, ground := Ground.phase }, { on := 4, ground := Ground.phase }, { on := 5, ground := Ground.phase }, { on := 6, ground := Ground.phase }, { on := 7, ground := Ground.phase }, { on := 8, ground := Ground.phase }], guard := none }) (v := _) rfl (by kernel_rfl) (by kernel_rfl) (by kernel_rfl) (fun _ _ _ h => h) (Or.inl ⟨by rfl, ?hy9⟩) hH3 ?r9
              case hy9 => (intro w' hSw; clear hSw; go_simp; try with_reducible rfl)
              simp only [Act.put, List.setIfInBounds_toArray, List.set_cons_zero, List.set_cons_succ]
              refine wpAnyH_done (by kernel_rfl) ?_ _
              refine NoPanic.normal ?_
              clear hp3 hj M3 c3 L3 L3d R3
              rw [← (show joins F2 ((o.take (i + 1)).map (fun x => partR x hi cap)) = _ from hnx)] at R5 ⊢
              go_wp2_with fail
              go_roundw
              case rel => exact ⟨i + 1, fa', fc', hlt', rfl, by go_num, R5⟩
              case measure => have : i < o.length := hlt'; simp [intOf]; omega
            · have di3 : ¬ (i : Int) < (o.length : Int) := by omega
              have ei : i = o.length := by omega
              subst ei
              rw [List.take_length] at R2 ⊢
              obtain ⟨hL, hF, hspl⟩ := hHide
              have hF3 : joins F2 (o.map (fun x => partR x hi cap)) = F := by rw [hF, ← hF2, ← hF1]
              rw [hF3] at R2 ⊢
              clear hF3 hF hF1 hF2 hb1 hb2 hl1 hl2 hi1 hlt
              have hfl : F.length ≤ 100000 := by have := hL.len; omega
              have Mf := M1.more R2.keep
              have hcount := count_any Mf
              have hmost := most_any Mf
              have hAB : m.length = A.length + o.length + B.length := by rw [hspl]; simp; omega
              have hNl : (A ++ F ++ B).length = A.length + F.length + B.length := by simp; omega
              have hAB' : Hid (m.length = A.length + o.length + B.length) := hAB
              have hNl' : Hid ((A ++ F ++ B).length = A.length + F.length + B.length) := hNl
              have d1 := wrapI (x := (m.length : Int) - o.length) (by omega) (by omega)
              have d2 := wrapI (x := (m.length : Int) - o.length + F.length) (by omega) (by omega)
              have hL' : Hid (Laid lo hi (cap : Int) ins m A F B ∧ m = A ++ o ++ B) := ⟨hL, hspl⟩
              by_cases hfull : N < (A ++ F ++ B).length
              · have hb : (N : Int) < (m.length : Int) - o.length + F.length := by omega
                have hfull' : Hid (N < (A ++ F ++ B).length) := hfull
                have KK := Ro.keep.trans R2.keep
                clear hL hspl hAB hNl hfull h M1 Mf
                go_wp2_with (first | (go_at_call 26; refine hcount.mono ?_; rintro e w6 ⟨rfl, e6⟩; have e6 := e6.symm; subst e6) | (go_at_call 51; refine hmost.mono ?_; rintro e w6 ⟨rfl, e6⟩; have e6 := e6.symm; subst e6))
                go_ret
                exact Or.inr ⟨hfull', rfl, KK⟩
              · have hb : ¬ (N : Int) < (m.length : Int) - o.length + F.length := by omega
                have hNN : (A ++ F ++ B).length ≤ N := by omega
                have hNN' : Hid ((A ++ F ++ B).length ≤ N) := hNN
                have hlt0 := h.lt
                have hlt1 := M1.lt
                have hq : ¬ Own3 b p k q := by
                  rintro (e | e | e)
                  · exact h.qb e
                  · exact h.qp e
                  · exact h.qk e
                obtain ⟨l, t, hT, ht⟩ := Mf.ex
                have hsw := swap_any (A := A) (o := o) (f := F) (B := B) (q := q) (cap := cap) ⟨hT, Mf.tops.2.2, Keep.refl _ _⟩ hq (by rw [ht, hspl]) hL.form.up hNN hN2 (rO1.more R2.keep) R2.rs
                  (fun g e => by have := (Ro.block e).1; rintro (e | e | e) <;> omega) (fun g e => by have := (R2.block e).1; have := Ro.keep.size; rintro (e | e | e) <;> omega)
                have hMk : ∀ w', (∃ l t, Mid w wr w' q b p k N cap l t ∧ t.runs = A ++ F ++ B) → Mp w w' q b p k N cap (A ++ F ++ B) ∧ Keep (Own3 b p k) wa w' := by
                  rintro w' ⟨l', t', hM', ht'⟩
                  exact ⟨⟨⟨l', t', hM'.mt, ht'⟩, Mf.top.keep hM'.keep hq, h.qw, h.qb, h.qp, h.qk, hL.form, hlim, h.cap1, h.cap2, h.N1, h.N2⟩, ((Ro.keep.trans R2.keep).mono (fun _ _ e => e.elim)).trans hM'.keep⟩
                have hMk' : Hid (∀ w', (∃ l t, Mid w wr w' q b p k N cap l t ∧ t.runs = A ++ F ++ B) → Mp w w' q b p k N cap (A ++ F ++ B) ∧ Keep (Own3 b p k) wa w') := hMk
                have hsw' := hsw.mono (R' := fun e w' => e = .returned (.tuple #[]) ∧ Hid (∃ l t, Mid w wr w' q b p k N cap l t ∧ t.runs = A ++ F ++ B)) (by rintro e w' ⟨h1, h2⟩; exact ⟨h1, h2⟩)
                clear hL hspl hAB hNl hfull h M1 Mf hMk hT ht hsw hNN
                go_wp2_with (first | (go_at_call 26; refine hcount.mono ?_; rintro e w6 ⟨rfl, e6⟩; have e6 := e6.symm; subst e6) | (go_at_call 51; refine hmost.mono ?_; rintro e w6 ⟨rfl, e6⟩; have e6 := e6.symm; subst e6) | (go_at_call 52; refine hsw'.mono ?_; rintro e w7 ⟨rfl, hE⟩))
                go_ret
                exact Or.inl ⟨hNN', rfl, hMk' _ hE⟩
end Tg
end Go.Proofs.Ytbdankhlbepjoaa
