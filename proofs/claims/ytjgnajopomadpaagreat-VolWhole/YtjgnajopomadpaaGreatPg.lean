/-
  The document's own Volumes.
-/
import Derived.Test.YtjgnajopomadpaaGreatPf
namespace Go.Proofs.YtjgnajopomadpaaGreat
open Go.ChangeShapes Go.WideShapes Go.ChangeAt Go.RowKit
namespace Tg
open Qm
theorem ent_parts {V : Option En} {N : Nat} (hN : N ≤ 512) (h : ∀ e, V = some e → e.Ok N) : ∃ (e : En) (ok : Bool), enV V = .tuple #[.agg #[.string (strOfNums e.nm), .int .i64 e.f, .int .i64 e.n, .int .i64 e.i], .bool ok] ∧ (ok = true → V = some e) ∧ (ok = false → V = none) ∧ 0 ≤ e.f ∧ e.f ≤ 512 ∧ 0 ≤ e.n ∧ e.n ≤ 512 := by
  cases V with
  | none => exact ⟨En.z, false, rfl, (fun x => by cases x), (fun _ => rfl), by decide⟩
  | some e =>
    have h1 := h e rfl
    have f := h1.f
    have n := h1.n
    have fn := h1.fn
    exact ⟨e, true, rfl, (fun _ => rfl), (fun x => by cases x), by omega⟩
set_option maxRecDepth 100000 in
set_option maxHeartbeats 4000000 in
theorem volumes25 {l : List Int} (hl8 : B8 l) {N : Nat} (hl : l.length = N * 32) (hN : 9 ≤ N ∧ N ≤ 512) (w : World) :
    Calls Tryz.prog 44 #[.string (strOfNums l)] w fun e w' => ∃ a cap, e = .returned (.slice a (volL N l).length cap) ∧ Ev w w' a cap (volL N l) := by
  obtain ⟨hmk, R0⟩ := make32 w
  have hent : RowKit.Hid (∀ i : Nat, i < 8 → ∀ wx, Calls Tryz.prog 46 #[.string (strOfNums l), .int .i64 (i : Int)] wx fun e w' => e = .returned (enV (entL N l i)) ∧ Keep (fun _ => False) wx w') := fun i hi wx => entry25 hl8 hl hN.2 (by omega) wx
  have hvk : RowKit.Hid (∀ k : Nat, k ≤ 8 → (volK N l k).length ≤ k ∧ ∀ e ∈ volK N l k, e.Ok N) := volK_ok hl8 hl (by omega)
  have hvs : RowKit.Hid (∀ k : Nat, volK N l (k + 1) = vstep (entL N l k) (volK N l k)) := fun k => rfl
  have heok : RowKit.Hid (∀ i : Nat, i < 8 → ∀ e, entL N l i = some e → e.Ok N) := fun i hi e h => entL_ok hl8 hl (by omega) (by omega) h
  have hNb : RowKit.Hid (N ≤ 512) := hN.2
  generalize w.alloc (.cells (madeCells (enA En.z) (0 * 4)) 91) = w1 at hmk R0
  generalize hG : w.heap.size = G at hmk R0
  obtain ⟨R, hR⟩ : ∃ R, RowKit.Hid (R = volL N l) := ⟨_, rfl⟩
  have hR8 : RowKit.Hid (R = volK N l 8) := hR
  rw [← hR.out]
  clear hl8 hl hN hR
  generalize strOfNums l = T at *
  go_enter Tryz.func44, Tryz.ntmps44
  go_wp2_with fail
  clear hmk
  go_loopw [3, 4] (fun lv v wx => ∃ (i : Nat) (a : Option Addr) (cap n : Nat), lv = .slice a n cap ∧ v = .int .i64 (i : Int) ∧ RowKit.Hid (i ≤ 8 ∧ n = (volK N l i).length) ∧ RowKit.Hid (Ev w wx a cap (volK N l i))) (fun _ v _ => 8 - (intOf v).toNat)
  case atStart => exact ⟨0, _, _, _, rfl, rfl, ⟨by omega, rfl⟩, R0⟩
  case round =>
    clear R0
    obtain ⟨i, a, cap, n, rfl, rfl, hi, hE⟩ := hrel
    by_cases h8 : i = 8
    · have hn : RowKit.Hid (n = R.length) := by show _ = _; rw [hR8.out, ← h8]; exact hi.out.2
      have hE2 : RowKit.Hid (Ev w wr a cap R) := by show Ev w wr a cap R; rw [hR8.out, ← h8]; exact hE.out
      have hge : ¬ (i : Int) < 8 := by omega
      clear hi hE hR8 hent hvk hvs heok hNb h8
      go_wp2_with fail
      go_ret
      exact ⟨a, cap, by show Ending.returned (.slice a n cap) = _; rw [show n = R.length from hn], hE2⟩
    · have hlt : (i : Int) < 8 := by have := hi.out.1; omega
      have hw1 : IntKind.i64.wrap ((i : Int) + 1) = ((i + 1 : Nat) : Int) := by rw [show (i : Int) + 1 = ((i + 1 : Nat) : Int) by omega]; exact wrapI (by omega) (by omega)
      have hc := hent.out i (by omega) wr
      obtain ⟨V, hV⟩ : ∃ V, RowKit.Hid (V = entL N l i) := ⟨_, rfl⟩
      rw [← hV.out] at hc
      obtain ⟨e, ok, hval, hok1, hok0, heb⟩ := ent_parts (V := V) (N := N) hNb.out (fun e h => heok.out i (by omega) e (by rw [← hV.out]; exact h))
      rw [hval] at hc
      have hok1 : RowKit.Hid (ok = true → V = some e) := hok1
      have hok0 : RowKit.Hid (ok = false → V = none) := hok0
      clear hval
      go_upto_region 5 with fail
      go_wp2_with fail
      refine hc.mono ?_
      rintro e2 w2 ⟨rfl, k2⟩
      have E2 : RowKit.Hid (Ev w w2 a cap (volK N l i)) := hE.out.more k2
      obtain ⟨es, hSh⟩ : ∃ es, RowKit.Hid (strOfNums e.nm = es) := ⟨_, rfl⟩
      have K3 : Keep (fun _ => False) w2 (w2.alloc (.cells #[.string es, .int .i64 e.f, .int .i64 e.n, .int .i64 e.i] 91)) := (Keep.refl _ _).alloc _
      have E4 : RowKit.Hid (Ev w (w2.alloc (.cells #[.string es, .int .i64 e.f, .int .i64 e.n, .int .i64 e.i] 91)) a cap (volK N l i)) := E2.out.more K3
      have L4' : RowKit.Hid (Blk (w2.alloc (.cells #[.string es, .int .i64 e.f, .int .i64 e.n, .int .i64 e.i] 91)) w2.heap.size 4 (enC e)) :=
        blk_alloc w2 _ 91 4 _ (by rw [← hSh.out]; intro k hk; rcases (by omega : k = 0 ∨ k = 1 ∨ k = 2 ∨ k = 3) with rfl | rfl | rfl | rfl <;> rfl)
      rw [hSh.out]
      clear hc k2 hE E2 K3 hent heok
      go_wp2_with fail
      generalize w2.alloc (.cells #[.string es, .int .i64 e.f, .int .i64 e.n, .int .i64 e.i] 91) = w4 at *
      generalize w2.heap.size = g at *
      obtain ⟨acc, hacc⟩ : ∃ acc, RowKit.Hid (acc = volK N l i) := ⟨_, rfl⟩
      have hnext : RowKit.Hid (volK N l (i + 1) = vstep V acc) := by show _ = _; rw [hvs.out, hV.out, hacc.out]
      have hlen : RowKit.Hid (n = acc.length ∧ n ≤ 8) := by
        have h1 := (hvk.out i hi.out.1).1
        have h2 := hi.out.2
        show _ ∧ _
        rw [hacc.out]
        have h3 := hi.out.1
        omega
      have haok : RowKit.Hid (∀ x ∈ acc, x.Ok N) := by show ∀ x ∈ acc, x.Ok N; rw [hacc.out]; exact (hvk.out i hi.out.1).2
      rw [← hacc.out] at E4
      have hi8 : RowKit.Hid (i < 8) := by have := hi.out.1; show i < 8; omega
      clear hacc hvs hvk hV hi h8
      go_loopw [6, 7] (fun b kv wx => ∃ (k : Nat) (B : Bool), b = .bool B ∧ kv = .int .i64 (k : Int) ∧ RowKit.Hid (k ≤ n ∧ B = (ok && (acc.take k).all (fun x => apart x e))) ∧ RowKit.Hid (Ev w wx a cap acc ∧ Blk wx g 4 (enC e))) (fun _ kv _ => n - (intOf kv).toNat)
      case atStart => exact ⟨0, ok, rfl, rfl, ⟨by omega, by simp⟩, E4, L4'⟩
      case round =>
        clear E4 L4'
        obtain ⟨k, B, rfl, rfl, hk, hM⟩ := hrel
        cases B with
        | false =>
          have hsame : RowKit.Hid (volK N l (i + 1) = acc) := by
            show _ = _
            rw [hnext.out]
            cases ok with
            | false => rw [hok0.out rfl]; rfl
            | true =>
              rw [hok1.out rfl]
              show (if _ then _ else _) = _
              rw [if_neg]
              intro hall
              have hx := hk.out.2
              rw [Bool.true_and] at hx
              have : (acc.take k).all (fun x => apart x e) = true := List.all_eq_true.2 fun x hx => List.all_eq_true.1 hall x (List.mem_of_mem_take hx)
              rw [this] at hx
              cases hx
          have hE5 : RowKit.Hid (Ev w wr a cap acc) := hM.out.1
          have hn5 : RowKit.Hid (n = acc.length) := hlen.out.1
          clear hM hk hnext hok0 hok1 haok hlen
          go_wp2_with fail
          go_roundw
          case rel => exact ⟨i + 1, a, cap, n, rfl, rfl, ⟨hi8.out, by rw [hsame.out]; exact hn5⟩, by rw [hsame.out]; exact hE5⟩
          case measure => have := hi8.out; simp [intOf]; omega
        | true =>
          by_cases hkn : k = n
          · have hokt : ok = true := by
              have := hk.out.2
              cases ok with
              | false => cases this
              | true => rfl
            have hsame : RowKit.Hid (volK N l (i + 1) = acc ++ [e]) := by
              show _ = _
              rw [hnext.out, hok1.out hokt]
              show (if _ then _ else _) = _
              rw [if_pos]
              have hx := hk.out.2
              rw [hokt, Bool.true_and, hkn, hlen.out.1, List.take_length] at hx
              exact hx.symm
            have hld := load50 hM.out.2
            obtain ⟨a2, cap2, w6, hap, E6⟩ := Ev.app hM.out.1 (by have := hlen.out; omega) e
            have E6' : RowKit.Hid (Ev w w6 a2 cap2 (acc ++ [e])) := E6
            have hn6 : RowKit.Hid (n + 1 = (acc ++ [e]).length) := by show _ = _; rw [List.length_append, hlen.out.1]; rfl
            rw [← hlen.out.1] at hap
            have hA : enA e = #[.string es, .int .i64 e.f, .int .i64 e.n, .int .i64 e.i] := by rw [← hSh.out]; rfl
            rw [hA] at hap hld
            have hkge : ¬ (k : Int) < n := by omega
            clear hM hk hnext hok0 hok1 haok hlen E6 hkn hA hSh hokt
            go_wp2_with (first | (guard_target =~ wpList _ _ _ (Oper.mk _ (Op.load 91 _) _ _ _ _ :: _) _ _; refine wpList_load_run (by rfl) 91 (.tmp 5) rfl (by rfl) hld ?_) | (at_builtin; refine wpList_append_text rfl (.tmp 66) (.tmp 68) 88 88 rfl (by rfl) (by rfl) hap ?_))
            go_roundw
            case rel => exact ⟨i + 1, a2, cap2, n + 1, rfl, rfl, ⟨hi8.out, by rw [hsame.out]; exact hn6⟩, by rw [hsame.out]; exact E6'⟩
            case measure => have := hi8.out; simp [intOf]; omega
          · have hkl : (k : Int) < n := by have := hk.out.1; omega
            obtain ⟨x, hx⟩ : ∃ x, acc[k]? = some x := ⟨_, List.getElem?_eq_getElem (by have := hlen.out; omega)⟩
            have hxm : x ∈ acc := List.mem_of_getElem? hx
            have hxb := haok.out x hxm
            obtain ⟨g', o', eg, z0, z1, z2, -⟩ := hM.out.1.at hx
            subst eg
            have y0 : wr.cell? ⟨g, 0, none⟩ = some (.string es) := by rw [← hSh.out]; exact (hM.out.2 0 (by omega)).1
            have y1 : wr.cell? ⟨g, 1, none⟩ = some (.int .i64 e.f) := (hM.out.2 1 (by omega)).1
            have y2 : wr.cell? ⟨g, 2, none⟩ = some (.int .i64 e.n) := (hM.out.2 2 (by omega)).1
            have hN5 := hNb.out
            have hxf := hxb.f
            have hxn := hxb.n
            have hxfn := hxb.fn
            have d1 := wrapI (x := x.f + x.n) (by omega) (by omega)
            have d2 := wrapI (x := e.f + e.n) (by omega) (by omega)
            have dk : IntKind.i64.wrap ((k : Int) + 1) = ((k + 1 : Nat) : Int) := by rw [show (k : Int) + 1 = ((k + 1 : Nat) : Int) by omega]; exact wrapI (by omega) (by have := hlen.out; omega)
            have hMM : ∀ m, RowKit.Hid (Ev w (wr.drewN m) (some ⟨g', o', none⟩) cap acc ∧ Blk (wr.drewN m) g 4 (enC e)) := fun m => ⟨hM.out.1.more ((Keep.refl _ _).drewN m), hM.out.2.keep ((Keep.refl (fun _ => False) _).drewN m) (fun e => e)⟩
            have hnew0 : ∀ q, apart x e = q → RowKit.Hid (k + 1 ≤ n ∧ q = (ok && (acc.take (k + 1)).all (fun x => apart x e))) := fun q hq => by
              refine ⟨by omega, ?_⟩
              have h1 := hk.out.2
              cases ok with
              | false => cases h1
              | true =>
                rw [Bool.true_and] at h1
                rw [Bool.true_and, List.take_add_one, hx, List.all_append, ← h1, ← hq]
                simp
            have hap : apart x e = (decide (¬ strOfNums x.nm = es) && (decide (x.f + x.n ≤ e.f) || decide (e.f + e.n ≤ x.f))) := by unfold apart; rw [hSh.out]
            generalize strOfNums x.nm = xs at *
            have hcmp := ba_eq xs es
            by_cases c1 : xs = es
            · have q1 : (xs.toList == es.toList) = true := by rw [hcmp, decide_eq_true c1]
              have hnew := hnew0 false (by rw [hap]; simp [c1])
              clear hk hx hxm haok hlen hM hnext hok0 hok1 hkn hxb heb hnew0 hap hSh hi8 hNb hN5 hcmp c1
              go_upto_region 9 with fail
              go_quiet (fail)
              go_wp2_with fail
              go_roundw
              case rel => exact ⟨k + 1, false, rfl, rfl, hnew, hMM _⟩
              case measure => simp [intOf]; omega
            · have q1 : (xs.toList == es.toList) = false := by rw [hcmp, decide_eq_false c1]
              by_cases c2 : x.f + x.n ≤ e.f
              · have q2 : decide (x.f + x.n ≤ e.f) = true := decide_eq_true c2
                have hnew := hnew0 true (by rw [hap]; simp [c1, c2])
                clear hk hx hxm haok hlen hM hnext hok0 hok1 hkn hxb heb hnew0 hap hSh hi8 hNb hN5 hcmp c1
                go_upto_region 9 with fail
                go_quiet (fail)
                go_wp2_with fail
                go_roundw
                case rel => exact ⟨k + 1, true, rfl, rfl, hnew, hMM _⟩
                case measure => simp [intOf]; omega
              · have q2 : decide (x.f + x.n ≤ e.f) = false := decide_eq_false c2
                by_cases c3 : e.f + e.n ≤ x.f
                · have q3 : decide (e.f + e.n ≤ x.f) = true := decide_eq_true c3
                  have hnew := hnew0 true (by rw [hap]; simp [c1, c3])
                  clear hk hx hxm haok hlen hM hnext hok0 hok1 hkn hxb heb hnew0 hap hSh hi8 hNb hN5 hcmp c1
                  go_upto_region 9 with fail
                  go_quiet (fail)
                  go_wp2_with fail
                  go_roundw
                  case rel => exact ⟨k + 1, true, rfl, rfl, hnew, hMM _⟩
                  case measure => simp [intOf]; omega
                · have q3 : decide (e.f + e.n ≤ x.f) = false := decide_eq_false c3
                  have hnew := hnew0 false (by rw [hap]; simp [c1]; omega)
                  clear hk hx hxm haok hlen hM hnext hok0 hok1 hkn hxb heb hnew0 hap hSh hi8 hNb hN5 hcmp c1
                  go_upto_region 9 with fail
                  go_quiet (fail)
                  go_wp2_with fail
                  go_roundw
                  case rel => exact ⟨k + 1, false, rfl, rfl, hnew, hMM _⟩
                  case measure => simp [intOf]; omega
end Tg
end Go.Proofs.YtjgnajopomadpaaGreat
